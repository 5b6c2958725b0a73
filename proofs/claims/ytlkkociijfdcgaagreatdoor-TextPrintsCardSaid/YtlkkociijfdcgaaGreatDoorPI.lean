/-
  Walk of TextPrints.
-/
import Derived.Test.YtlkkociijfdcgaaGreatDoorPG
namespace Go.Proofs.YtlkkociijfdcgaaGreatDoor
open Go.RowKit Go.Maps Go.Shelf

/-- What ways of setting a right word answer. -/
def SAns (w : World) (o : Option (List Int)) (e : Ending) (w' : World) : Prop :=
  Below w.heap.size w w' ∧ match o with
    | none => e = .returned (.tuple #[.slice none 0 0, .int .i64 6])
    | some l => ∃ A k, e = .returned (.tuple #[.slice A l.length k, .int .i64 0]) ∧ IRow w' w.heap.size (.slice A l.length k) l
theorem wordP_same {f : FT} {r r' : RU} (h : SameR r r') (s : ByteArray) : wordP f none 0 r' s 0 s.size = wordP f none 0 r s 0 s.size := by unfold wordP; rw [barsOf_same h]
theorem sortsPost_ans {w : World} {y : Way} {f : FT} {r r' : RU} {s : ByteArray} {e : Ending} {w' : World} (h0 : setErrW f r s = 0) (hS : SameR r r') (h : SortsPost w y f r' s e w') : SAns w (y.S (wordP f none 0 r s 0 s.size)) e w' := by
  obtain ⟨hb, h⟩ := h
  refine ⟨hb, ?_⟩
  have hE : sortsErr y f r' s = if (y.S (wordP f none 0 r s 0 s.size)).isNone = true then 6 else 0 := by
    unfold sortsErr
    rw [setErrW_same hS, if_neg (fun h => h h0), wordP_same hS]
  rw [wordP_same hS] at h
  cases ho : y.S (wordP f none 0 r s 0 s.size) with
  | none =>
    rw [ho] at hE
    have hE : sortsErr y f r' s = 6 := hE
    rw [if_neg (by rw [hE]; decide), hE] at h
    exact h
  | some l =>
    rw [ho] at hE h
    have hE : sortsErr y f r' s = 0 := hE
    rw [if_pos hE] at h
    obtain ⟨v, l', e1, rfl, hI⟩ := h
    injection e1 with e1
    subst e1
    obtain ⟨A, k, rfl, -, -, -⟩ := hI.shape
    exact ⟨A, k, rfl, hI⟩
/-- The error of sorts for a right word. -/
def cE (f : FT) (r : RU) (s : ByteArray) (l : List Int) : Int := if prErr f l ≠ 0 then prErr f l else erR (wordP f none 0 r s 0 s.size) l 0 false
theorem chkErr_ans {f : FT} {r r' : RU} {s : ByteArray} {l : List Int} (h0 : setErrW f r s = 0) (hS : SameR r r') : chkErr f r' s l = cE f r s l := by
  unfold chkErr cE
  rw [setErrW_same hS, if_neg (fun h => h h0), wordP_same hS]
theorem cE_path {f : FT} {r : RU} {s : ByteArray} {l : List Int} : cE f r s l = 0 ↔ PathP (wordP f none 0 r s 0 s.size) 0 l := by
  rw [← acc_path]
  unfold cE
  show _ ↔ prErr f l = 0 ∧ _
  by_cases h : prErr f l = 0
  · rw [if_neg (fun h2 => h2 h)]
    exact ⟨fun h2 => ⟨h, h2⟩, fun h2 => h2.2⟩
  · rw [if_pos h]
    exact ⟨fun h2 => absurd h2 h, fun h2 => absurd h2.1 h⟩
set_option maxRecDepth 100000 in
set_option maxHeartbeats 8000000 in
theorem prints_walk (f : FT) (a : Option Addr) (c : Nat) (r : RU) (s : ByteArray) (b : Option Addr) (l : List Int) (d : Nat) (w : World) (hF : FIn w f a c) (hR : r.at_ w) (hT : TabOk w) (hc : capR r) (hs : s.size ≤ maxLen) (hX : IntsAt w b l) (hl : l.length ≤ maxLen) (hd : b = none → d = 0) :
    Calls Tryz.prog 7 #[.agg #[.string f.name, .int .i64 f.body, .slice a f.sorts.length c], .agg r.cells, .agg #[.string s, .slice b l.length d]] w fun e w' => e = .returned (.bool true) ∧ Below w.heap.size w w' := by
  have hK0 : CSK w f a c r s b l d _ := CSK.start
  have HF := Lib.hid (fun W (h : FRK w f a c r W) => hF.below h.low)
  have HR := Lib.hid (fun W (h : FRK w f a c r W) => hR.below h.low)
  have HX := Lib.hid (fun W (h : FRK w f a c r W) => hX.below h.low)
  have HT := Lib.hid (fun W (h : FRK w f a c r W) => hT.below h.low hT.1)
  have hz : SizesOk r.ps.l ∧ SizesOk r.es.l ∧ SizesOk r.bs.l := ⟨hR.1.2.2, hR.2.1.2.2, hR.2.2.2.2⟩
  have HSR := Lib.hid (fun W (h : r.at_ W) => Short_any r W h)
  have HCP0 := Lib.hid (fun W (h : r.at_ W) h1 h2 h3 => copyRules_any r W h hc h1 h2 h3)
  have hcap := hF.nil
  unfold maxLen at hl
  unfold RU.cells at *
  clear hF hR hT hc hX
  go_enter Tryz.func7, Tryz.ntmps7
  go_wp2_with fail
  refine (awake_any _ (HT.out _ hK0.fr)).mono ?_
  rintro e w2 ⟨rfl, hb2⟩
  have hK2 := hK0.below hb2
  clear hK0 hb2
  obtain ⟨c0, c1, c2⟩ := hK2.fr.fc
  go_wp2_with fail
  refine (few2_any f a c _ (HF.out _ hK2.fr).at_.ok (HF.out _ hK2.fr).at_.at_).mono ?_
  rintro e w3 ⟨rfl, hb3⟩
  have hK3 := hK2.below hb3
  clear hK2 hb3 c0 c1 c2
  cases hfew : few2B f
  · have hlow := hK3.fr.low
    go_wp2
    go_ret
    exact ⟨rfl, hlow⟩
  obtain ⟨d0, d1, d2, d3, d4⟩ := hK3.fr.rc
  go_wp2_with fail
  refine (HSR.out _ (HR.out _ hK3.fr)).mono ?_
  rintro e w4 ⟨rfl, hb4⟩
  have hK4 := hK3.below hb4
  clear hK3 hb4 d0 d1 d2 d3 d4
  cases hsh : shortR r
  · have hlow := hK4.fr.low
    go_wp2
    go_ret
    exact ⟨rfl, hlow⟩
  obtain ⟨s0, s1⟩ := hK4.sc
  by_cases h40 : 40 < s.size
  · have hlow := hK4.fr.low
    have g1 : decide ((40 : Int) < (s.size : Int)) = true := decide_eq_true (by omega)
    have i1 : (40 : Int) < (s.size : Int) := by omega
    go_wp2
    go_ret
    exact ⟨rfl, hlow⟩
  have g1 : decide ((40 : Int) < (s.size : Int)) = false := decide_eq_false (by omega)
  have i1 : ¬ (40 : Int) < (s.size : Int) := by omega
  by_cases h41 : 40 < l.length
  · have hlow := hK4.fr.low
    have g2 : decide ((40 : Int) < (l.length : Int)) = true := decide_eq_true (by omega)
    have i2 : (40 : Int) < (l.length : Int) := by omega
    go_wp2
    go_ret
    exact ⟨rfl, hlow⟩
  have g2 : decide ((40 : Int) < (l.length : Int)) = false := decide_eq_false (by omega)
  have i2 : ¬ (40 : Int) < (l.length : Int) := by omega
  obtain ⟨hSm, hl1, hl2, hl3⟩ := small_short hsh
  have hn122 := few2_len hfew
  have hl' : r.ps.l.length ≤ 1000 ∧ r.es.l.length ≤ 1000 ∧ r.bs.l.length ≤ 1000 := ⟨by omega, by omega, by omega⟩
  have HCP := Lib.hid (fun W (h : r.at_ W) => HCP0.out W h hl'.1 hl'.2.1 hl'.2.2)
  have HCF := Lib.hid (fun W (h : FRK w f a c r W) => copyFount_any f a c W (HF.out W h).at_ (by omega) hcap)
  have HWE := Lib.hid (fun W (h : FRK w f a c r W) => wordErrF_any f a c r s W (HF.out W h) (HR.out W h) hSm hs)
  have HAT := Lib.hid (fun W (r2 : RU) (h1 : SameR r r2) B (h2 : OwnR W B r2) => own_at h1 h2 hz hl')
  have HCI := Lib.hid (fun W (h : FRK w f a c r W) => copyInts_any b l d W (HX.out W h) (by omega) hd)
  have HCL := Lib.hid (fun W (A : Option Addr) (L : List Int) (k base : Nat) (h : IRow W base (.slice A L.length k) L) (hn : L.length ≤ 1000) => copyInts_any A L k W h.ints.2 (by omega) (by
    obtain ⟨a9, c9, e9, -, -, hn9⟩ := h.shape
    injection e9 with e1 e2 e3
    rw [e1, e3]; exact hn9))
  obtain ⟨SE, hSE⟩ : ∃ SE, SE = setErrW f r s := ⟨_, rfl⟩
  unfold RU.cells at HCP HWE
  rw [← hSE] at HWE
  obtain ⟨c0, c1, c2⟩ := hK4.fr.fc
  obtain ⟨d0, d1, d2, d3, d4⟩ := hK4.fr.rc
  clear hfew hsh HSR HCP0 HT
  go_wp2_with fail
  refine (HWE.out _ hK4.fr).mono ?_
  rintro e w5 ⟨rfl, hb5⟩
  have hK5 := hK4.below hb5
  clear hK4 hb5 c0 c1 c2 d0 d1 d2 d3 d4 s0 s1 HWE
  by_cases hse : SE = 0
  case neg =>
    have hseb : (SE != 0) = true := by simpa using hse
    have hlow := hK5.fr.low
    go_wp2
    go_ret
    exact ⟨rfl, hlow⟩
  have hseb : (SE != 0) = false := by rw [hse]; rfl
  have h0 : setErrW f r s = 0 := by rw [← hSE]; exact hse
  obtain ⟨hcf, -, hwe⟩ := setErrW_ok h0
  have hT := texted hcf
  have hsz := (word_size hwe).2
  have HFS := Lib.hid (fun W (r2 : RU) (g k : Nat) (h1 : FAt W (some ⟨g, 0, none⟩) f) (h2 : r2.at_ W) (h3 : SameR r r2) => Calls.mono (fewestSorts_fn f (some ⟨g, 0, none⟩) k r2 s W h1 h2 hs) (fun e w' h => sortsPost_ans h0 h3 h))
  have HLS := Lib.hid (fun W (r2 : RU) (g k : Nat) (h1 : FAt W (some ⟨g, 0, none⟩) f) (h2 : r2.at_ W) (h3 : SameR r r2) => Calls.mono (sortsOf_fn f (some ⟨g, 0, none⟩) k r2 s W h1 h2 hs) (fun e w' h => sortsPost_ans h0 h3 h))
  have HCS := Lib.hid (fun W (r2 : RU) (g k g2 k2 : Nat) (L : List Int) (h1 : FAt W (some ⟨g, 0, none⟩) f) (h2 : r2.at_ W) (h3 : SameR r r2) (h4 : IntsAt W (some ⟨g2, 0, none⟩) L) (h5 : L.length ≤ 1000) => (show Calls Tryz.prog 47 #[.agg #[.string f.name, .int .i64 f.body, .slice (some ⟨g, 0, none⟩) f.sorts.length k], .agg r2.cells, .agg #[.string s, .slice (some ⟨g2, 0, none⟩) L.length k2]] W (fun e w' => e = .returned (.int .i64 (cE f r s L)) ∧ Below W.heap.size W w') by
    have h := checkSorts_any f (some ⟨g, 0, none⟩) k r2 s (some ⟨g2, 0, none⟩) L k2 W h1 h2 hs h4 (by unfold maxLen; omega)
    rw [chkErr_ans h0 h3] at h
    exact h))
  have hT' : Texted (wordP f none 0 r s 0 s.size).f := hT
  have hP30 : (wordP f none 0 r s 0 s.size).t.size ≤ 30 := by show (s.extract 0 s.size).size ≤ 30; rw [ByteArray.size_extract]; omega
  have HN := Lib.hid (fun (h : fewP (wordP f none 0 r s 0 s.size) = none) => show cE f r s l ≠ 0 from fun h2 => fewP_none hT' hP30 h l (cE_path.1 h2))
  have HSO := Lib.hid (fun ls (h : fewP (wordP f none 0 r s 0 s.size) = some ls) => show cE f r s ls = 0 ∧ ls.length ≤ 30 ∧ ∀ l', cE f r s l' = 0 → ls.length ≤ l'.length by
    obtain ⟨h1, h2⟩ := fewP_some hT' h
    have := path_len hT' ls 0 h1
    exact ⟨cE_path.2 h1, by omega, fun l' h' => h2 l' (cE_path.1 h')⟩)
  have HLO := Lib.hid (fun ls (h : longP (wordP f none 0 r s 0 s.size) = some ls) => show cE f r s ls = 0 ∧ ls.length ≤ 30 by
    have h1 := longP_some h
    have := path_len hT' ls 0 h1
    exact ⟨cE_path.2 h1, by omega⟩)
  obtain ⟨oF, hoF⟩ : ∃ o, o = fewP (wordP f none 0 r s 0 s.size) := ⟨_, rfl⟩
  obtain ⟨oL, hoL⟩ : ∃ o, o = longP (wordP f none 0 r s 0 s.size) := ⟨_, rfl⟩
  obtain ⟨own, hown⟩ : ∃ x, x = cE f r s l := ⟨_, rfl⟩
  change Hid (∀ (W : World) (r2 : RU) (g k : Nat), FAt W (some ⟨g, 0, none⟩) f → r2.at_ W → SameR r r2 → Calls Tryz.prog 46 #[.agg #[.string f.name, .int .i64 f.body, .slice (some ⟨g, 0, none⟩) f.sorts.length k], .agg r2.cells, .string s] W (SAns W (fewP (wordP f none 0 r s 0 s.size)))) at HFS
  change Hid (∀ (W : World) (r2 : RU) (g k : Nat), FAt W (some ⟨g, 0, none⟩) f → r2.at_ W → SameR r r2 → Calls Tryz.prog 39 #[.agg #[.string f.name, .int .i64 f.body, .slice (some ⟨g, 0, none⟩) f.sorts.length k], .agg r2.cells, .string s] W (SAns W (longP (wordP f none 0 r s 0 s.size)))) at HLS
  rw [← hoF] at HFS HN HSO
  rw [← hoL] at HLS HLO
  rw [← hown] at HN
  have HOW := Lib.hid hown
  unfold RU.cells at HFS HLS HCS
  clear hoF hoL hown hT' hP30 hT hsz hcf hwe h0 hse hSE
  have HCO := Lib.hid (fun W r2 g k g2 k2 h1 h2 h3 h4 => HCS.out W r2 g k g2 k2 l h1 h2 h3 h4 (by omega))
  rw [← HOW.out] at HCO
  cases oF with
  | none =>
    have hno : own ≠ 0 := HN.out rfl
    obtain ⟨c0, c1, c2⟩ := hK5.fr.fc
    obtain ⟨d0, d1, d2, d3, d4⟩ := hK5.fr.rc
    obtain ⟨s0, s1⟩ := hK5.sc
    have hltC : w.heap.size + 2 < w5.heap.size := heap_lt hK5.sb
    have hltA : w.heap.size < w5.heap.size := by omega
    have hltB : w.heap.size + 1 < w5.heap.size := by omega
    go_wp2_with fail
    go_region_held3 (fun w' => w'.cell? ⟨w.heap.size, 0, none⟩ = some (.string f.name) ∧ w'.cell? ⟨w.heap.size, 1, none⟩ = some (.int .i64 f.body) ∧ w'.cell? ⟨w.heap.size, 2, none⟩ = some (.slice a f.sorts.length c) ∧ w'.cell? ⟨w.heap.size + 1, 0, none⟩ = some (.slice r.ps.a r.ps.l.length r.ps.c) ∧ w'.cell? ⟨w.heap.size + 1, 1, none⟩ = some (.slice r.es.a r.es.l.length r.es.c) ∧ w'.cell? ⟨w.heap.size + 1, 2, none⟩ = some (.slice r.bs.a r.bs.l.length r.bs.c) ∧ w'.cell? ⟨w.heap.size + 1, 3, none⟩ = some (.int .i64 r.left) ∧ w'.cell? ⟨w.heap.size + 1, 4, none⟩ = some (.int .i64 r.right) ∧ w'.cell? ⟨w.heap.size + 2, 0, none⟩ = some (.string s) ∧ w'.cell? ⟨w.heap.size + 2, 1, none⟩ = some (.slice b l.length d)) (go_keep)
      (first
       | (go_at_call 38; refine (HCF.out _ (by first | exact hK5.fr | exact ⟨hK5.fr.fb, hK5.fr.rb, hK5.fr.low.drew⟩)).mono ?_; rintro e w7 ⟨g7, cp7, rfl, hk7, hF7, hb7d⟩; have hb7 : Below w5.heap.size w5 w7 := (Below.refl _ _).drew.trans hb7d; have k0 := (hb7.cell (p := ⟨w.heap.size, 0, none⟩) hltA).trans c0; have k1 := (hb7.cell (p := ⟨w.heap.size, 1, none⟩) hltA).trans c1; have k2 := (hb7.cell (p := ⟨w.heap.size, 2, none⟩) hltA).trans c2; have k3 := (hb7.cell (p := ⟨w.heap.size + 1, 0, none⟩) hltB).trans d0; have k4 := (hb7.cell (p := ⟨w.heap.size + 1, 1, none⟩) hltB).trans d1; have k5 := (hb7.cell (p := ⟨w.heap.size + 1, 2, none⟩) hltB).trans d2; have k6 := (hb7.cell (p := ⟨w.heap.size + 1, 3, none⟩) hltB).trans d3; have k7 := (hb7.cell (p := ⟨w.heap.size + 1, 4, none⟩) hltB).trans d4; have k8 := (hb7.cell (p := ⟨w.heap.size + 2, 0, none⟩) hltC).trans s0; have k9 := (hb7.cell (p := ⟨w.heap.size + 2, 1, none⟩) hltC).trans s1)
       | (go_at_call 20; refine (HCP.out _ (HR.out _ ((hK5.below hb7).fr))).mono ?_; rintro e w8 ⟨r8, rfl, hS8, hO8, hb8⟩; have hb87 : Below w5.heap.size w5 w8 := hb7.trans (hb8.mono hb7.size); have k0 := (hb87.cell (p := ⟨w.heap.size, 0, none⟩) hltA).trans c0; have k1 := (hb87.cell (p := ⟨w.heap.size, 1, none⟩) hltA).trans c1; have k2 := (hb87.cell (p := ⟨w.heap.size, 2, none⟩) hltA).trans c2; have k3 := (hb87.cell (p := ⟨w.heap.size + 1, 0, none⟩) hltB).trans d0; have k4 := (hb87.cell (p := ⟨w.heap.size + 1, 1, none⟩) hltB).trans d1; have k5 := (hb87.cell (p := ⟨w.heap.size + 1, 2, none⟩) hltB).trans d2; have k6 := (hb87.cell (p := ⟨w.heap.size + 1, 3, none⟩) hltB).trans d3; have k7 := (hb87.cell (p := ⟨w.heap.size + 1, 4, none⟩) hltB).trans d4; have k8 := (hb87.cell (p := ⟨w.heap.size + 2, 0, none⟩) hltC).trans s0; have k9 := (hb87.cell (p := ⟨w.heap.size + 2, 1, none⟩) hltC).trans s1)
       | (go_at_call 46; refine (HFS.out _ r8 g7 cp7 (hF7.below hb8) (HAT.out _ _ hS8 _ hO8) hS8).mono ?_; rintro e wA ⟨hbAd, rfl⟩; have hbA : Below w5.heap.size w5 wA := hb87.trans (hbAd.mono hb87.size); have k0 := (hbA.cell (p := ⟨w.heap.size, 0, none⟩) hltA).trans c0; have k1 := (hbA.cell (p := ⟨w.heap.size, 1, none⟩) hltA).trans c1; have k2 := (hbA.cell (p := ⟨w.heap.size, 2, none⟩) hltA).trans c2; have k3 := (hbA.cell (p := ⟨w.heap.size + 1, 0, none⟩) hltB).trans d0; have k4 := (hbA.cell (p := ⟨w.heap.size + 1, 1, none⟩) hltB).trans d1; have k5 := (hbA.cell (p := ⟨w.heap.size + 1, 2, none⟩) hltB).trans d2; have k6 := (hbA.cell (p := ⟨w.heap.size + 1, 3, none⟩) hltB).trans d3; have k7 := (hbA.cell (p := ⟨w.heap.size + 1, 4, none⟩) hltB).trans d4; have k8 := (hbA.cell (p := ⟨w.heap.size + 2, 0, none⟩) hltC).trans s0; have k9 := (hbA.cell (p := ⟨w.heap.size + 2, 1, none⟩) hltC).trans s1))
    have hKA := hK5.below hbA
    clear c0 c1 c2 d0 d1 d2 d3 d4 s0 s1 k0 k1 k2 k3 k4 k5 k6 k7 k8 k9 hltA hltB hltC hb7 hb7d hb8 hb87 hF7 hO8 hS8 hbAd hbA hK5 
    have hnb : (own != 0) = true := by simpa using hno
    obtain ⟨c0, c1, c2⟩ := hKA.fr.fc
    obtain ⟨d0, d1, d2, d3, d4⟩ := hKA.fr.rc
    obtain ⟨s0, s1⟩ := hKA.sc
    have hltC : w.heap.size + 2 < wA.heap.size := heap_lt hKA.sb
    have hltA : w.heap.size < wA.heap.size := by omega
    have hltB : w.heap.size + 1 < wA.heap.size := by omega
    go_wp2_with fail
    go_region_held3 (fun w' => w'.cell? ⟨w.heap.size, 0, none⟩ = some (.string f.name) ∧ w'.cell? ⟨w.heap.size, 1, none⟩ = some (.int .i64 f.body) ∧ w'.cell? ⟨w.heap.size, 2, none⟩ = some (.slice a f.sorts.length c) ∧ w'.cell? ⟨w.heap.size + 1, 0, none⟩ = some (.slice r.ps.a r.ps.l.length r.ps.c) ∧ w'.cell? ⟨w.heap.size + 1, 1, none⟩ = some (.slice r.es.a r.es.l.length r.es.c) ∧ w'.cell? ⟨w.heap.size + 1, 2, none⟩ = some (.slice r.bs.a r.bs.l.length r.bs.c) ∧ w'.cell? ⟨w.heap.size + 1, 3, none⟩ = some (.int .i64 r.left) ∧ w'.cell? ⟨w.heap.size + 1, 4, none⟩ = some (.int .i64 r.right) ∧ w'.cell? ⟨w.heap.size + 2, 0, none⟩ = some (.string s) ∧ w'.cell? ⟨w.heap.size + 2, 1, none⟩ = some (.slice b l.length d)) (go_keep)
      (first
       | (go_at_call 38; refine (HCF.out _ (by first | exact hKA.fr | exact ⟨hKA.fr.fb, hKA.fr.rb, hKA.fr.low.drew⟩)).mono ?_; rintro e w7 ⟨g7, cp7, rfl, hk7, hF7, hb7d⟩; have hb7 : Below wA.heap.size wA w7 := (Below.refl _ _).drew.trans hb7d; have k0 := (hb7.cell (p := ⟨w.heap.size, 0, none⟩) hltA).trans c0; have k1 := (hb7.cell (p := ⟨w.heap.size, 1, none⟩) hltA).trans c1; have k2 := (hb7.cell (p := ⟨w.heap.size, 2, none⟩) hltA).trans c2; have k3 := (hb7.cell (p := ⟨w.heap.size + 1, 0, none⟩) hltB).trans d0; have k4 := (hb7.cell (p := ⟨w.heap.size + 1, 1, none⟩) hltB).trans d1; have k5 := (hb7.cell (p := ⟨w.heap.size + 1, 2, none⟩) hltB).trans d2; have k6 := (hb7.cell (p := ⟨w.heap.size + 1, 3, none⟩) hltB).trans d3; have k7 := (hb7.cell (p := ⟨w.heap.size + 1, 4, none⟩) hltB).trans d4; have k8 := (hb7.cell (p := ⟨w.heap.size + 2, 0, none⟩) hltC).trans s0; have k9 := (hb7.cell (p := ⟨w.heap.size + 2, 1, none⟩) hltC).trans s1)
       | (go_at_call 20; refine (HCP.out _ (HR.out _ ((hKA.below hb7).fr))).mono ?_; rintro e w8 ⟨r8, rfl, hS8, hO8, hb8⟩; have hb87 : Below wA.heap.size wA w8 := hb7.trans (hb8.mono hb7.size); have k0 := (hb87.cell (p := ⟨w.heap.size, 0, none⟩) hltA).trans c0; have k1 := (hb87.cell (p := ⟨w.heap.size, 1, none⟩) hltA).trans c1; have k2 := (hb87.cell (p := ⟨w.heap.size, 2, none⟩) hltA).trans c2; have k3 := (hb87.cell (p := ⟨w.heap.size + 1, 0, none⟩) hltB).trans d0; have k4 := (hb87.cell (p := ⟨w.heap.size + 1, 1, none⟩) hltB).trans d1; have k5 := (hb87.cell (p := ⟨w.heap.size + 1, 2, none⟩) hltB).trans d2; have k6 := (hb87.cell (p := ⟨w.heap.size + 1, 3, none⟩) hltB).trans d3; have k7 := (hb87.cell (p := ⟨w.heap.size + 1, 4, none⟩) hltB).trans d4; have k8 := (hb87.cell (p := ⟨w.heap.size + 2, 0, none⟩) hltC).trans s0; have k9 := (hb87.cell (p := ⟨w.heap.size + 2, 1, none⟩) hltC).trans s1)
       | (go_at_call 48; refine (HCI.out _ ((hKA.below hb87).fr)).mono ?_; rintro e w9 ⟨g9, cp9, rfl, ho9, hb9d⟩; have hX9 := (IRow.ints ho9).2; have hb9 : Below wA.heap.size wA w9 := hb87.trans (hb9d.mono hb87.size); have k0 := (hb9.cell (p := ⟨w.heap.size, 0, none⟩) hltA).trans c0; have k1 := (hb9.cell (p := ⟨w.heap.size, 1, none⟩) hltA).trans c1; have k2 := (hb9.cell (p := ⟨w.heap.size, 2, none⟩) hltA).trans c2; have k3 := (hb9.cell (p := ⟨w.heap.size + 1, 0, none⟩) hltB).trans d0; have k4 := (hb9.cell (p := ⟨w.heap.size + 1, 1, none⟩) hltB).trans d1; have k5 := (hb9.cell (p := ⟨w.heap.size + 1, 2, none⟩) hltB).trans d2; have k6 := (hb9.cell (p := ⟨w.heap.size + 1, 3, none⟩) hltB).trans d3; have k7 := (hb9.cell (p := ⟨w.heap.size + 1, 4, none⟩) hltB).trans d4; have k8 := (hb9.cell (p := ⟨w.heap.size + 2, 0, none⟩) hltC).trans s0; have k9 := (hb9.cell (p := ⟨w.heap.size + 2, 1, none⟩) hltC).trans s1)
       | (go_at_call 47; refine (HCO.out _ r8 g7 cp7 g9 cp9 ((hF7.below hb8).below hb9d) ((HAT.out _ _ hS8 _ hO8).below hb9d) hS8 hX9).mono ?_; rintro e wB ⟨rfl, hbAd⟩; have hbA : Below wA.heap.size wA wB := hb9.trans (hbAd.mono hb9.size); have k0 := (hbA.cell (p := ⟨w.heap.size, 0, none⟩) hltA).trans c0; have k1 := (hbA.cell (p := ⟨w.heap.size, 1, none⟩) hltA).trans c1; have k2 := (hbA.cell (p := ⟨w.heap.size, 2, none⟩) hltA).trans c2; have k3 := (hbA.cell (p := ⟨w.heap.size + 1, 0, none⟩) hltB).trans d0; have k4 := (hbA.cell (p := ⟨w.heap.size + 1, 1, none⟩) hltB).trans d1; have k5 := (hbA.cell (p := ⟨w.heap.size + 1, 2, none⟩) hltB).trans d2; have k6 := (hbA.cell (p := ⟨w.heap.size + 1, 3, none⟩) hltB).trans d3; have k7 := (hbA.cell (p := ⟨w.heap.size + 1, 4, none⟩) hltB).trans d4; have k8 := (hbA.cell (p := ⟨w.heap.size + 2, 0, none⟩) hltC).trans s0; have k9 := (hbA.cell (p := ⟨w.heap.size + 2, 1, none⟩) hltC).trans s1))
    have hKB := hKA.below hbA
    have hlow := hKB.fr.low
    clear c0 c1 c2 d0 d1 d2 d3 d4 s0 s1 k0 k1 k2 k3 k4 k5 k6 k7 k8 k9 hltA hltB hltC hb7 hb7d hb8 hb87 hF7 hO8 hS8 hbAd hbA hKA ho9 hX9 hb9 hb9d
    go_wp2
    go_ret
    exact ⟨rfl, hlow⟩
  | some ls =>
    obtain ⟨hso1, hso2, hso3⟩ := HSO.out ls rfl
    have HSM := Lib.hid hso3
    have HC1 := Lib.hid (fun W r2 g k g2 k2 h1 h2 h3 h4 => HCS.out W r2 g k g2 k2 ls h1 h2 h3 h4 (by omega))
    rw [hso1] at HC1
    clear hso1 hso3
    obtain ⟨c0, c1, c2⟩ := hK5.fr.fc
    obtain ⟨d0, d1, d2, d3, d4⟩ := hK5.fr.rc
    obtain ⟨s0, s1⟩ := hK5.sc
    have hltC : w.heap.size + 2 < w5.heap.size := heap_lt hK5.sb
    have hltA : w.heap.size < w5.heap.size := by omega
    have hltB : w.heap.size + 1 < w5.heap.size := by omega
    go_wp2_with fail
    go_region_held3 (fun w' => w'.cell? ⟨w.heap.size, 0, none⟩ = some (.string f.name) ∧ w'.cell? ⟨w.heap.size, 1, none⟩ = some (.int .i64 f.body) ∧ w'.cell? ⟨w.heap.size, 2, none⟩ = some (.slice a f.sorts.length c) ∧ w'.cell? ⟨w.heap.size + 1, 0, none⟩ = some (.slice r.ps.a r.ps.l.length r.ps.c) ∧ w'.cell? ⟨w.heap.size + 1, 1, none⟩ = some (.slice r.es.a r.es.l.length r.es.c) ∧ w'.cell? ⟨w.heap.size + 1, 2, none⟩ = some (.slice r.bs.a r.bs.l.length r.bs.c) ∧ w'.cell? ⟨w.heap.size + 1, 3, none⟩ = some (.int .i64 r.left) ∧ w'.cell? ⟨w.heap.size + 1, 4, none⟩ = some (.int .i64 r.right) ∧ w'.cell? ⟨w.heap.size + 2, 0, none⟩ = some (.string s) ∧ w'.cell? ⟨w.heap.size + 2, 1, none⟩ = some (.slice b l.length d)) (go_keep)
      (first
       | (go_at_call 38; refine (HCF.out _ (by first | exact hK5.fr | exact ⟨hK5.fr.fb, hK5.fr.rb, hK5.fr.low.drew⟩)).mono ?_; rintro e w7 ⟨g7, cp7, rfl, hk7, hF7, hb7d⟩; have hb7 : Below w5.heap.size w5 w7 := (Below.refl _ _).drew.trans hb7d; have k0 := (hb7.cell (p := ⟨w.heap.size, 0, none⟩) hltA).trans c0; have k1 := (hb7.cell (p := ⟨w.heap.size, 1, none⟩) hltA).trans c1; have k2 := (hb7.cell (p := ⟨w.heap.size, 2, none⟩) hltA).trans c2; have k3 := (hb7.cell (p := ⟨w.heap.size + 1, 0, none⟩) hltB).trans d0; have k4 := (hb7.cell (p := ⟨w.heap.size + 1, 1, none⟩) hltB).trans d1; have k5 := (hb7.cell (p := ⟨w.heap.size + 1, 2, none⟩) hltB).trans d2; have k6 := (hb7.cell (p := ⟨w.heap.size + 1, 3, none⟩) hltB).trans d3; have k7 := (hb7.cell (p := ⟨w.heap.size + 1, 4, none⟩) hltB).trans d4; have k8 := (hb7.cell (p := ⟨w.heap.size + 2, 0, none⟩) hltC).trans s0; have k9 := (hb7.cell (p := ⟨w.heap.size + 2, 1, none⟩) hltC).trans s1)
       | (go_at_call 20; refine (HCP.out _ (HR.out _ ((hK5.below hb7).fr))).mono ?_; rintro e w8 ⟨r8, rfl, hS8, hO8, hb8⟩; have hb87 : Below w5.heap.size w5 w8 := hb7.trans (hb8.mono hb7.size); have k0 := (hb87.cell (p := ⟨w.heap.size, 0, none⟩) hltA).trans c0; have k1 := (hb87.cell (p := ⟨w.heap.size, 1, none⟩) hltA).trans c1; have k2 := (hb87.cell (p := ⟨w.heap.size, 2, none⟩) hltA).trans c2; have k3 := (hb87.cell (p := ⟨w.heap.size + 1, 0, none⟩) hltB).trans d0; have k4 := (hb87.cell (p := ⟨w.heap.size + 1, 1, none⟩) hltB).trans d1; have k5 := (hb87.cell (p := ⟨w.heap.size + 1, 2, none⟩) hltB).trans d2; have k6 := (hb87.cell (p := ⟨w.heap.size + 1, 3, none⟩) hltB).trans d3; have k7 := (hb87.cell (p := ⟨w.heap.size + 1, 4, none⟩) hltB).trans d4; have k8 := (hb87.cell (p := ⟨w.heap.size + 2, 0, none⟩) hltC).trans s0; have k9 := (hb87.cell (p := ⟨w.heap.size + 2, 1, none⟩) hltC).trans s1)
       | (go_at_call 46; refine (HFS.out _ r8 g7 cp7 (hF7.below hb8) (HAT.out _ _ hS8 _ hO8) hS8).mono ?_; rintro e wA ⟨hbAd, A7, q7, rfl, hI7⟩; have hbA : Below w5.heap.size w5 wA := hb87.trans (hbAd.mono hb87.size); have k0 := (hbA.cell (p := ⟨w.heap.size, 0, none⟩) hltA).trans c0; have k1 := (hbA.cell (p := ⟨w.heap.size, 1, none⟩) hltA).trans c1; have k2 := (hbA.cell (p := ⟨w.heap.size, 2, none⟩) hltA).trans c2; have k3 := (hbA.cell (p := ⟨w.heap.size + 1, 0, none⟩) hltB).trans d0; have k4 := (hbA.cell (p := ⟨w.heap.size + 1, 1, none⟩) hltB).trans d1; have k5 := (hbA.cell (p := ⟨w.heap.size + 1, 2, none⟩) hltB).trans d2; have k6 := (hbA.cell (p := ⟨w.heap.size + 1, 3, none⟩) hltB).trans d3; have k7 := (hbA.cell (p := ⟨w.heap.size + 1, 4, none⟩) hltB).trans d4; have k8 := (hbA.cell (p := ⟨w.heap.size + 2, 0, none⟩) hltC).trans s0; have k9 := (hbA.cell (p := ⟨w.heap.size + 2, 1, none⟩) hltC).trans s1))
    have hKA := hK5.below hbA
    clear c0 c1 c2 d0 d1 d2 d3 d4 s0 s1 k0 k1 k2 k3 k4 k5 k6 k7 k8 k9 hltA hltB hltC hb7 hb7d hb8 hb87 hF7 hO8 hS8 hbAd hbA hK5 
    obtain ⟨c0, c1, c2⟩ := hKA.fr.fc
    obtain ⟨d0, d1, d2, d3, d4⟩ := hKA.fr.rc
    obtain ⟨s0, s1⟩ := hKA.sc
    have hltC : w.heap.size + 2 < wA.heap.size := heap_lt hKA.sb
    have hltA : w.heap.size < wA.heap.size := by omega
    have hltB : w.heap.size + 1 < wA.heap.size := by omega
    go_wp2_with fail
    go_region_held3 (fun w' => w'.cell? ⟨w.heap.size, 0, none⟩ = some (.string f.name) ∧ w'.cell? ⟨w.heap.size, 1, none⟩ = some (.int .i64 f.body) ∧ w'.cell? ⟨w.heap.size, 2, none⟩ = some (.slice a f.sorts.length c) ∧ w'.cell? ⟨w.heap.size + 1, 0, none⟩ = some (.slice r.ps.a r.ps.l.length r.ps.c) ∧ w'.cell? ⟨w.heap.size + 1, 1, none⟩ = some (.slice r.es.a r.es.l.length r.es.c) ∧ w'.cell? ⟨w.heap.size + 1, 2, none⟩ = some (.slice r.bs.a r.bs.l.length r.bs.c) ∧ w'.cell? ⟨w.heap.size + 1, 3, none⟩ = some (.int .i64 r.left) ∧ w'.cell? ⟨w.heap.size + 1, 4, none⟩ = some (.int .i64 r.right) ∧ w'.cell? ⟨w.heap.size + 2, 0, none⟩ = some (.string s) ∧ w'.cell? ⟨w.heap.size + 2, 1, none⟩ = some (.slice b l.length d)) (go_keep)
      (first
       | (go_at_call 38; refine (HCF.out _ (by first | exact hKA.fr | exact ⟨hKA.fr.fb, hKA.fr.rb, hKA.fr.low.drew⟩)).mono ?_; rintro e w7 ⟨g7, cp7, rfl, hk7, hF7, hb7d⟩; have hb7 : Below wA.heap.size wA w7 := (Below.refl _ _).drew.trans hb7d; have k0 := (hb7.cell (p := ⟨w.heap.size, 0, none⟩) hltA).trans c0; have k1 := (hb7.cell (p := ⟨w.heap.size, 1, none⟩) hltA).trans c1; have k2 := (hb7.cell (p := ⟨w.heap.size, 2, none⟩) hltA).trans c2; have k3 := (hb7.cell (p := ⟨w.heap.size + 1, 0, none⟩) hltB).trans d0; have k4 := (hb7.cell (p := ⟨w.heap.size + 1, 1, none⟩) hltB).trans d1; have k5 := (hb7.cell (p := ⟨w.heap.size + 1, 2, none⟩) hltB).trans d2; have k6 := (hb7.cell (p := ⟨w.heap.size + 1, 3, none⟩) hltB).trans d3; have k7 := (hb7.cell (p := ⟨w.heap.size + 1, 4, none⟩) hltB).trans d4; have k8 := (hb7.cell (p := ⟨w.heap.size + 2, 0, none⟩) hltC).trans s0; have k9 := (hb7.cell (p := ⟨w.heap.size + 2, 1, none⟩) hltC).trans s1)
       | (go_at_call 20; refine (HCP.out _ (HR.out _ ((hKA.below hb7).fr))).mono ?_; rintro e w8 ⟨r8, rfl, hS8, hO8, hb8⟩; have hb87 : Below wA.heap.size wA w8 := hb7.trans (hb8.mono hb7.size); have k0 := (hb87.cell (p := ⟨w.heap.size, 0, none⟩) hltA).trans c0; have k1 := (hb87.cell (p := ⟨w.heap.size, 1, none⟩) hltA).trans c1; have k2 := (hb87.cell (p := ⟨w.heap.size, 2, none⟩) hltA).trans c2; have k3 := (hb87.cell (p := ⟨w.heap.size + 1, 0, none⟩) hltB).trans d0; have k4 := (hb87.cell (p := ⟨w.heap.size + 1, 1, none⟩) hltB).trans d1; have k5 := (hb87.cell (p := ⟨w.heap.size + 1, 2, none⟩) hltB).trans d2; have k6 := (hb87.cell (p := ⟨w.heap.size + 1, 3, none⟩) hltB).trans d3; have k7 := (hb87.cell (p := ⟨w.heap.size + 1, 4, none⟩) hltB).trans d4; have k8 := (hb87.cell (p := ⟨w.heap.size + 2, 0, none⟩) hltC).trans s0; have k9 := (hb87.cell (p := ⟨w.heap.size + 2, 1, none⟩) hltC).trans s1)
       | (go_at_call 48; refine (HCI.out _ ((hKA.below hb87).fr)).mono ?_; rintro e w9 ⟨g9, cp9, rfl, ho9, hb9d⟩; have hX9 := (IRow.ints ho9).2; have hb9 : Below wA.heap.size wA w9 := hb87.trans (hb9d.mono hb87.size); have k0 := (hb9.cell (p := ⟨w.heap.size, 0, none⟩) hltA).trans c0; have k1 := (hb9.cell (p := ⟨w.heap.size, 1, none⟩) hltA).trans c1; have k2 := (hb9.cell (p := ⟨w.heap.size, 2, none⟩) hltA).trans c2; have k3 := (hb9.cell (p := ⟨w.heap.size + 1, 0, none⟩) hltB).trans d0; have k4 := (hb9.cell (p := ⟨w.heap.size + 1, 1, none⟩) hltB).trans d1; have k5 := (hb9.cell (p := ⟨w.heap.size + 1, 2, none⟩) hltB).trans d2; have k6 := (hb9.cell (p := ⟨w.heap.size + 1, 3, none⟩) hltB).trans d3; have k7 := (hb9.cell (p := ⟨w.heap.size + 1, 4, none⟩) hltB).trans d4; have k8 := (hb9.cell (p := ⟨w.heap.size + 2, 0, none⟩) hltC).trans s0; have k9 := (hb9.cell (p := ⟨w.heap.size + 2, 1, none⟩) hltC).trans s1)
       | (go_at_call 47; refine (HCO.out _ r8 g7 cp7 g9 cp9 ((hF7.below hb8).below hb9d) ((HAT.out _ _ hS8 _ hO8).below hb9d) hS8 hX9).mono ?_; rintro e wB ⟨rfl, hbAd⟩; have hbA : Below wA.heap.size wA wB := hb9.trans (hbAd.mono hb9.size); have k0 := (hbA.cell (p := ⟨w.heap.size, 0, none⟩) hltA).trans c0; have k1 := (hbA.cell (p := ⟨w.heap.size, 1, none⟩) hltA).trans c1; have k2 := (hbA.cell (p := ⟨w.heap.size, 2, none⟩) hltA).trans c2; have k3 := (hbA.cell (p := ⟨w.heap.size + 1, 0, none⟩) hltB).trans d0; have k4 := (hbA.cell (p := ⟨w.heap.size + 1, 1, none⟩) hltB).trans d1; have k5 := (hbA.cell (p := ⟨w.heap.size + 1, 2, none⟩) hltB).trans d2; have k6 := (hbA.cell (p := ⟨w.heap.size + 1, 3, none⟩) hltB).trans d3; have k7 := (hbA.cell (p := ⟨w.heap.size + 1, 4, none⟩) hltB).trans d4; have k8 := (hbA.cell (p := ⟨w.heap.size + 2, 0, none⟩) hltC).trans s0; have k9 := (hbA.cell (p := ⟨w.heap.size + 2, 1, none⟩) hltC).trans s1))
    have hKB := hKA.below hbA
    have hIB := hI7.below hbA
    clear c0 c1 c2 d0 d1 d2 d3 d4 s0 s1 k0 k1 k2 k3 k4 k5 k6 k7 k8 k9 hltA hltB hltC hb7 hb7d hb8 hb87 hF7 hO8 hS8 hbAd hbA hKA ho9 hX9 hb9 hb9d hI7
    have hcase : ((own == 0) = true ∧ ¬ (l.length : Int) < (ls.length : Int)) ∨ ((own == 0) = false ∧ ¬ own = 0) := by
      by_cases h : own = 0
      · have := HSM.out l (by rw [← HOW.out]; exact h)
        exact Or.inl ⟨by rw [h]; rfl, by omega⟩
      · exact Or.inr ⟨by simpa using h, h⟩
    rcases hcase with ⟨hob, hlt⟩ | ⟨hob, hne⟩
    · have hltd : decide ((l.length : Int) < (ls.length : Int)) = false := decide_eq_false hlt
      have hltn : decide (l.length < ls.length) = false := decide_eq_false (by omega)
      obtain ⟨c0, c1, c2⟩ := hKB.fr.fc
      obtain ⟨d0, d1, d2, d3, d4⟩ := hKB.fr.rc
      obtain ⟨s0, s1⟩ := hKB.sc
      have hltC : w.heap.size + 2 < wB.heap.size := heap_lt hKB.sb
      have hltA : w.heap.size < wB.heap.size := by omega
      have hltB : w.heap.size + 1 < wB.heap.size := by omega
      go_wp2_with fail
      go_region_held3 (fun w' => w'.cell? ⟨w.heap.size, 0, none⟩ = some (.string f.name) ∧ w'.cell? ⟨w.heap.size, 1, none⟩ = some (.int .i64 f.body) ∧ w'.cell? ⟨w.heap.size, 2, none⟩ = some (.slice a f.sorts.length c) ∧ w'.cell? ⟨w.heap.size + 1, 0, none⟩ = some (.slice r.ps.a r.ps.l.length r.ps.c) ∧ w'.cell? ⟨w.heap.size + 1, 1, none⟩ = some (.slice r.es.a r.es.l.length r.es.c) ∧ w'.cell? ⟨w.heap.size + 1, 2, none⟩ = some (.slice r.bs.a r.bs.l.length r.bs.c) ∧ w'.cell? ⟨w.heap.size + 1, 3, none⟩ = some (.int .i64 r.left) ∧ w'.cell? ⟨w.heap.size + 1, 4, none⟩ = some (.int .i64 r.right) ∧ w'.cell? ⟨w.heap.size + 2, 0, none⟩ = some (.string s) ∧ w'.cell? ⟨w.heap.size + 2, 1, none⟩ = some (.slice b l.length d)) (go_keep)
        (first
         | (go_at_call 38; refine (HCF.out _ (by first | exact hKB.fr | exact ⟨hKB.fr.fb, hKB.fr.rb, hKB.fr.low.drew⟩)).mono ?_; rintro e w7 ⟨g7, cp7, rfl, hk7, hF7, hb7d⟩; have hb7 : Below wB.heap.size wB w7 := (Below.refl _ _).drew.trans hb7d; have k0 := (hb7.cell (p := ⟨w.heap.size, 0, none⟩) hltA).trans c0; have k1 := (hb7.cell (p := ⟨w.heap.size, 1, none⟩) hltA).trans c1; have k2 := (hb7.cell (p := ⟨w.heap.size, 2, none⟩) hltA).trans c2; have k3 := (hb7.cell (p := ⟨w.heap.size + 1, 0, none⟩) hltB).trans d0; have k4 := (hb7.cell (p := ⟨w.heap.size + 1, 1, none⟩) hltB).trans d1; have k5 := (hb7.cell (p := ⟨w.heap.size + 1, 2, none⟩) hltB).trans d2; have k6 := (hb7.cell (p := ⟨w.heap.size + 1, 3, none⟩) hltB).trans d3; have k7 := (hb7.cell (p := ⟨w.heap.size + 1, 4, none⟩) hltB).trans d4; have k8 := (hb7.cell (p := ⟨w.heap.size + 2, 0, none⟩) hltC).trans s0; have k9 := (hb7.cell (p := ⟨w.heap.size + 2, 1, none⟩) hltC).trans s1)
         | (go_at_call 20; refine (HCP.out _ (HR.out _ ((hKB.below hb7).fr))).mono ?_; rintro e w8 ⟨r8, rfl, hS8, hO8, hb8⟩; have hb87 : Below wB.heap.size wB w8 := hb7.trans (hb8.mono hb7.size); have k0 := (hb87.cell (p := ⟨w.heap.size, 0, none⟩) hltA).trans c0; have k1 := (hb87.cell (p := ⟨w.heap.size, 1, none⟩) hltA).trans c1; have k2 := (hb87.cell (p := ⟨w.heap.size, 2, none⟩) hltA).trans c2; have k3 := (hb87.cell (p := ⟨w.heap.size + 1, 0, none⟩) hltB).trans d0; have k4 := (hb87.cell (p := ⟨w.heap.size + 1, 1, none⟩) hltB).trans d1; have k5 := (hb87.cell (p := ⟨w.heap.size + 1, 2, none⟩) hltB).trans d2; have k6 := (hb87.cell (p := ⟨w.heap.size + 1, 3, none⟩) hltB).trans d3; have k7 := (hb87.cell (p := ⟨w.heap.size + 1, 4, none⟩) hltB).trans d4; have k8 := (hb87.cell (p := ⟨w.heap.size + 2, 0, none⟩) hltC).trans s0; have k9 := (hb87.cell (p := ⟨w.heap.size + 2, 1, none⟩) hltC).trans s1)
         | (go_at_call 48; refine (HCL.out _ A7 ls q7 _ (hIB.below hb87) (by omega)).mono ?_; rintro e w9 ⟨g9, cp9, rfl, ho9, hb9d⟩; have hX9 := (IRow.ints ho9).2; have hb9 : Below wB.heap.size wB w9 := hb87.trans (hb9d.mono hb87.size); have k0 := (hb9.cell (p := ⟨w.heap.size, 0, none⟩) hltA).trans c0; have k1 := (hb9.cell (p := ⟨w.heap.size, 1, none⟩) hltA).trans c1; have k2 := (hb9.cell (p := ⟨w.heap.size, 2, none⟩) hltA).trans c2; have k3 := (hb9.cell (p := ⟨w.heap.size + 1, 0, none⟩) hltB).trans d0; have k4 := (hb9.cell (p := ⟨w.heap.size + 1, 1, none⟩) hltB).trans d1; have k5 := (hb9.cell (p := ⟨w.heap.size + 1, 2, none⟩) hltB).trans d2; have k6 := (hb9.cell (p := ⟨w.heap.size + 1, 3, none⟩) hltB).trans d3; have k7 := (hb9.cell (p := ⟨w.heap.size + 1, 4, none⟩) hltB).trans d4; have k8 := (hb9.cell (p := ⟨w.heap.size + 2, 0, none⟩) hltC).trans s0; have k9 := (hb9.cell (p := ⟨w.heap.size + 2, 1, none⟩) hltC).trans s1)
         | (go_at_call 47; refine (HC1.out _ r8 g7 cp7 g9 cp9 ((hF7.below hb8).below hb9d) ((HAT.out _ _ hS8 _ hO8).below hb9d) hS8 hX9).mono ?_; rintro e wC ⟨rfl, hbAd⟩; have hbA : Below wB.heap.size wB wC := hb9.trans (hbAd.mono hb9.size); have k0 := (hbA.cell (p := ⟨w.heap.size, 0, none⟩) hltA).trans c0; have k1 := (hbA.cell (p := ⟨w.heap.size, 1, none⟩) hltA).trans c1; have k2 := (hbA.cell (p := ⟨w.heap.size, 2, none⟩) hltA).trans c2; have k3 := (hbA.cell (p := ⟨w.heap.size + 1, 0, none⟩) hltB).trans d0; have k4 := (hbA.cell (p := ⟨w.heap.size + 1, 1, none⟩) hltB).trans d1; have k5 := (hbA.cell (p := ⟨w.heap.size + 1, 2, none⟩) hltB).trans d2; have k6 := (hbA.cell (p := ⟨w.heap.size + 1, 3, none⟩) hltB).trans d3; have k7 := (hbA.cell (p := ⟨w.heap.size + 1, 4, none⟩) hltB).trans d4; have k8 := (hbA.cell (p := ⟨w.heap.size + 2, 0, none⟩) hltC).trans s0; have k9 := (hbA.cell (p := ⟨w.heap.size + 2, 1, none⟩) hltC).trans s1))
      have hKC := hKB.below hbA
      have hIC := hIB.below hbA
      clear c0 c1 c2 d0 d1 d2 d3 d4 s0 s1 k0 k1 k2 k3 k4 k5 k6 k7 k8 k9 hltA hltB hltC hb7 hb7d hb8 hb87 hF7 hO8 hS8 hbAd hbA hKB ho9 hX9 hb9 hb9d hIB
      clear HC1 HCO HFS HCI
      cases oL with
      | none =>
        obtain ⟨c0, c1, c2⟩ := hKC.fr.fc
        obtain ⟨d0, d1, d2, d3, d4⟩ := hKC.fr.rc
        obtain ⟨s0, s1⟩ := hKC.sc
        have hltC : w.heap.size + 2 < wC.heap.size := heap_lt hKC.sb
        have hltA : w.heap.size < wC.heap.size := by omega
        have hltB : w.heap.size + 1 < wC.heap.size := by omega
        go_wp2_with fail
        go_region_held3 (fun w' => w'.cell? ⟨w.heap.size, 0, none⟩ = some (.string f.name) ∧ w'.cell? ⟨w.heap.size, 1, none⟩ = some (.int .i64 f.body) ∧ w'.cell? ⟨w.heap.size, 2, none⟩ = some (.slice a f.sorts.length c) ∧ w'.cell? ⟨w.heap.size + 1, 0, none⟩ = some (.slice r.ps.a r.ps.l.length r.ps.c) ∧ w'.cell? ⟨w.heap.size + 1, 1, none⟩ = some (.slice r.es.a r.es.l.length r.es.c) ∧ w'.cell? ⟨w.heap.size + 1, 2, none⟩ = some (.slice r.bs.a r.bs.l.length r.bs.c) ∧ w'.cell? ⟨w.heap.size + 1, 3, none⟩ = some (.int .i64 r.left) ∧ w'.cell? ⟨w.heap.size + 1, 4, none⟩ = some (.int .i64 r.right) ∧ w'.cell? ⟨w.heap.size + 2, 0, none⟩ = some (.string s) ∧ w'.cell? ⟨w.heap.size + 2, 1, none⟩ = some (.slice b l.length d)) (go_keep)
          (first
           | (go_at_call 38; refine (HCF.out _ (by first | exact hKC.fr | exact ⟨hKC.fr.fb, hKC.fr.rb, hKC.fr.low.drew⟩)).mono ?_; rintro e w7 ⟨g7, cp7, rfl, hk7, hF7, hb7d⟩; have hb7 : Below wC.heap.size wC w7 := (Below.refl _ _).drew.trans hb7d; have k0 := (hb7.cell (p := ⟨w.heap.size, 0, none⟩) hltA).trans c0; have k1 := (hb7.cell (p := ⟨w.heap.size, 1, none⟩) hltA).trans c1; have k2 := (hb7.cell (p := ⟨w.heap.size, 2, none⟩) hltA).trans c2; have k3 := (hb7.cell (p := ⟨w.heap.size + 1, 0, none⟩) hltB).trans d0; have k4 := (hb7.cell (p := ⟨w.heap.size + 1, 1, none⟩) hltB).trans d1; have k5 := (hb7.cell (p := ⟨w.heap.size + 1, 2, none⟩) hltB).trans d2; have k6 := (hb7.cell (p := ⟨w.heap.size + 1, 3, none⟩) hltB).trans d3; have k7 := (hb7.cell (p := ⟨w.heap.size + 1, 4, none⟩) hltB).trans d4; have k8 := (hb7.cell (p := ⟨w.heap.size + 2, 0, none⟩) hltC).trans s0; have k9 := (hb7.cell (p := ⟨w.heap.size + 2, 1, none⟩) hltC).trans s1)
           | (go_at_call 20; refine (HCP.out _ (HR.out _ ((hKC.below hb7).fr))).mono ?_; rintro e w8 ⟨r8, rfl, hS8, hO8, hb8⟩; have hb87 : Below wC.heap.size wC w8 := hb7.trans (hb8.mono hb7.size); have k0 := (hb87.cell (p := ⟨w.heap.size, 0, none⟩) hltA).trans c0; have k1 := (hb87.cell (p := ⟨w.heap.size, 1, none⟩) hltA).trans c1; have k2 := (hb87.cell (p := ⟨w.heap.size, 2, none⟩) hltA).trans c2; have k3 := (hb87.cell (p := ⟨w.heap.size + 1, 0, none⟩) hltB).trans d0; have k4 := (hb87.cell (p := ⟨w.heap.size + 1, 1, none⟩) hltB).trans d1; have k5 := (hb87.cell (p := ⟨w.heap.size + 1, 2, none⟩) hltB).trans d2; have k6 := (hb87.cell (p := ⟨w.heap.size + 1, 3, none⟩) hltB).trans d3; have k7 := (hb87.cell (p := ⟨w.heap.size + 1, 4, none⟩) hltB).trans d4; have k8 := (hb87.cell (p := ⟨w.heap.size + 2, 0, none⟩) hltC).trans s0; have k9 := (hb87.cell (p := ⟨w.heap.size + 2, 1, none⟩) hltC).trans s1)
           | (go_at_call 39; refine (HLS.out _ r8 g7 cp7 (hF7.below hb8) (HAT.out _ _ hS8 _ hO8) hS8).mono ?_; rintro e wD ⟨hbAd, rfl⟩; have hbA : Below wC.heap.size wC wD := hb87.trans (hbAd.mono hb87.size); have k0 := (hbA.cell (p := ⟨w.heap.size, 0, none⟩) hltA).trans c0; have k1 := (hbA.cell (p := ⟨w.heap.size, 1, none⟩) hltA).trans c1; have k2 := (hbA.cell (p := ⟨w.heap.size, 2, none⟩) hltA).trans c2; have k3 := (hbA.cell (p := ⟨w.heap.size + 1, 0, none⟩) hltB).trans d0; have k4 := (hbA.cell (p := ⟨w.heap.size + 1, 1, none⟩) hltB).trans d1; have k5 := (hbA.cell (p := ⟨w.heap.size + 1, 2, none⟩) hltB).trans d2; have k6 := (hbA.cell (p := ⟨w.heap.size + 1, 3, none⟩) hltB).trans d3; have k7 := (hbA.cell (p := ⟨w.heap.size + 1, 4, none⟩) hltB).trans d4; have k8 := (hbA.cell (p := ⟨w.heap.size + 2, 0, none⟩) hltC).trans s0; have k9 := (hbA.cell (p := ⟨w.heap.size + 2, 1, none⟩) hltC).trans s1))
        have hKD := hKC.below hbA
        have hlow := hKD.fr.low
        clear c0 c1 c2 d0 d1 d2 d3 d4 s0 s1 k0 k1 k2 k3 k4 k5 k6 k7 k8 k9 hltA hltB hltC hb7 hb7d hb8 hb87 hF7 hO8 hS8 hbAd hbA hKC 
        go_wp2
        go_ret
        exact ⟨rfl, hlow⟩
      | some l2 =>
        obtain ⟨hlo1, hlo2⟩ := HLO.out l2 rfl
        have hmin := HSM.out l2 hlo1
        have hge : (ls.length : Int) ≤ (l2.length : Int) := by omega
        have hgd : decide ((ls.length : Int) ≤ (l2.length : Int)) = true := decide_eq_true hge
        have hgd2 : decide (ls.length ≤ l2.length) = true := decide_eq_true hmin
        have HC2 := Lib.hid (fun W r2 g k g2 k2 h1 h2 h3 h4 => HCS.out W r2 g k g2 k2 l2 h1 h2 h3 h4 (by omega))
        rw [hlo1] at HC2
        clear hlo1
        obtain ⟨c0, c1, c2⟩ := hKC.fr.fc
        obtain ⟨d0, d1, d2, d3, d4⟩ := hKC.fr.rc
        obtain ⟨s0, s1⟩ := hKC.sc
        have hltC : w.heap.size + 2 < wC.heap.size := heap_lt hKC.sb
        have hltA : w.heap.size < wC.heap.size := by omega
        have hltB : w.heap.size + 1 < wC.heap.size := by omega
        go_wp2_with fail
        go_region_held3 (fun w' => w'.cell? ⟨w.heap.size, 0, none⟩ = some (.string f.name) ∧ w'.cell? ⟨w.heap.size, 1, none⟩ = some (.int .i64 f.body) ∧ w'.cell? ⟨w.heap.size, 2, none⟩ = some (.slice a f.sorts.length c) ∧ w'.cell? ⟨w.heap.size + 1, 0, none⟩ = some (.slice r.ps.a r.ps.l.length r.ps.c) ∧ w'.cell? ⟨w.heap.size + 1, 1, none⟩ = some (.slice r.es.a r.es.l.length r.es.c) ∧ w'.cell? ⟨w.heap.size + 1, 2, none⟩ = some (.slice r.bs.a r.bs.l.length r.bs.c) ∧ w'.cell? ⟨w.heap.size + 1, 3, none⟩ = some (.int .i64 r.left) ∧ w'.cell? ⟨w.heap.size + 1, 4, none⟩ = some (.int .i64 r.right) ∧ w'.cell? ⟨w.heap.size + 2, 0, none⟩ = some (.string s) ∧ w'.cell? ⟨w.heap.size + 2, 1, none⟩ = some (.slice b l.length d)) (go_keep)
          (first
           | (go_at_call 38; refine (HCF.out _ (by first | exact hKC.fr | exact ⟨hKC.fr.fb, hKC.fr.rb, hKC.fr.low.drew⟩)).mono ?_; rintro e w7 ⟨g7, cp7, rfl, hk7, hF7, hb7d⟩; have hb7 : Below wC.heap.size wC w7 := (Below.refl _ _).drew.trans hb7d; have k0 := (hb7.cell (p := ⟨w.heap.size, 0, none⟩) hltA).trans c0; have k1 := (hb7.cell (p := ⟨w.heap.size, 1, none⟩) hltA).trans c1; have k2 := (hb7.cell (p := ⟨w.heap.size, 2, none⟩) hltA).trans c2; have k3 := (hb7.cell (p := ⟨w.heap.size + 1, 0, none⟩) hltB).trans d0; have k4 := (hb7.cell (p := ⟨w.heap.size + 1, 1, none⟩) hltB).trans d1; have k5 := (hb7.cell (p := ⟨w.heap.size + 1, 2, none⟩) hltB).trans d2; have k6 := (hb7.cell (p := ⟨w.heap.size + 1, 3, none⟩) hltB).trans d3; have k7 := (hb7.cell (p := ⟨w.heap.size + 1, 4, none⟩) hltB).trans d4; have k8 := (hb7.cell (p := ⟨w.heap.size + 2, 0, none⟩) hltC).trans s0; have k9 := (hb7.cell (p := ⟨w.heap.size + 2, 1, none⟩) hltC).trans s1)
           | (go_at_call 20; refine (HCP.out _ (HR.out _ ((hKC.below hb7).fr))).mono ?_; rintro e w8 ⟨r8, rfl, hS8, hO8, hb8⟩; have hb87 : Below wC.heap.size wC w8 := hb7.trans (hb8.mono hb7.size); have k0 := (hb87.cell (p := ⟨w.heap.size, 0, none⟩) hltA).trans c0; have k1 := (hb87.cell (p := ⟨w.heap.size, 1, none⟩) hltA).trans c1; have k2 := (hb87.cell (p := ⟨w.heap.size, 2, none⟩) hltA).trans c2; have k3 := (hb87.cell (p := ⟨w.heap.size + 1, 0, none⟩) hltB).trans d0; have k4 := (hb87.cell (p := ⟨w.heap.size + 1, 1, none⟩) hltB).trans d1; have k5 := (hb87.cell (p := ⟨w.heap.size + 1, 2, none⟩) hltB).trans d2; have k6 := (hb87.cell (p := ⟨w.heap.size + 1, 3, none⟩) hltB).trans d3; have k7 := (hb87.cell (p := ⟨w.heap.size + 1, 4, none⟩) hltB).trans d4; have k8 := (hb87.cell (p := ⟨w.heap.size + 2, 0, none⟩) hltC).trans s0; have k9 := (hb87.cell (p := ⟨w.heap.size + 2, 1, none⟩) hltC).trans s1)
           | (go_at_call 39; refine (HLS.out _ r8 g7 cp7 (hF7.below hb8) (HAT.out _ _ hS8 _ hO8) hS8).mono ?_; rintro e wD ⟨hbAd, A8, q8, rfl, hI8⟩; have hbA : Below wC.heap.size wC wD := hb87.trans (hbAd.mono hb87.size); have k0 := (hbA.cell (p := ⟨w.heap.size, 0, none⟩) hltA).trans c0; have k1 := (hbA.cell (p := ⟨w.heap.size, 1, none⟩) hltA).trans c1; have k2 := (hbA.cell (p := ⟨w.heap.size, 2, none⟩) hltA).trans c2; have k3 := (hbA.cell (p := ⟨w.heap.size + 1, 0, none⟩) hltB).trans d0; have k4 := (hbA.cell (p := ⟨w.heap.size + 1, 1, none⟩) hltB).trans d1; have k5 := (hbA.cell (p := ⟨w.heap.size + 1, 2, none⟩) hltB).trans d2; have k6 := (hbA.cell (p := ⟨w.heap.size + 1, 3, none⟩) hltB).trans d3; have k7 := (hbA.cell (p := ⟨w.heap.size + 1, 4, none⟩) hltB).trans d4; have k8 := (hbA.cell (p := ⟨w.heap.size + 2, 0, none⟩) hltC).trans s0; have k9 := (hbA.cell (p := ⟨w.heap.size + 2, 1, none⟩) hltC).trans s1))
        have hKD := hKC.below hbA
        clear c0 c1 c2 d0 d1 d2 d3 d4 s0 s1 k0 k1 k2 k3 k4 k5 k6 k7 k8 k9 hltA hltB hltC hb7 hb7d hb8 hb87 hF7 hO8 hS8 hbAd hbA hKC  hIC
        obtain ⟨c0, c1, c2⟩ := hKD.fr.fc
        obtain ⟨d0, d1, d2, d3, d4⟩ := hKD.fr.rc
        obtain ⟨s0, s1⟩ := hKD.sc
        have hltC : w.heap.size + 2 < wD.heap.size := heap_lt hKD.sb
        have hltA : w.heap.size < wD.heap.size := by omega
        have hltB : w.heap.size + 1 < wD.heap.size := by omega
        go_wp2_with fail
        go_region_held3 (fun w' => w'.cell? ⟨w.heap.size, 0, none⟩ = some (.string f.name) ∧ w'.cell? ⟨w.heap.size, 1, none⟩ = some (.int .i64 f.body) ∧ w'.cell? ⟨w.heap.size, 2, none⟩ = some (.slice a f.sorts.length c) ∧ w'.cell? ⟨w.heap.size + 1, 0, none⟩ = some (.slice r.ps.a r.ps.l.length r.ps.c) ∧ w'.cell? ⟨w.heap.size + 1, 1, none⟩ = some (.slice r.es.a r.es.l.length r.es.c) ∧ w'.cell? ⟨w.heap.size + 1, 2, none⟩ = some (.slice r.bs.a r.bs.l.length r.bs.c) ∧ w'.cell? ⟨w.heap.size + 1, 3, none⟩ = some (.int .i64 r.left) ∧ w'.cell? ⟨w.heap.size + 1, 4, none⟩ = some (.int .i64 r.right) ∧ w'.cell? ⟨w.heap.size + 2, 0, none⟩ = some (.string s) ∧ w'.cell? ⟨w.heap.size + 2, 1, none⟩ = some (.slice b l.length d)) (go_keep)
          (first
           | (go_at_call 38; refine (HCF.out _ (by first | exact hKD.fr | exact ⟨hKD.fr.fb, hKD.fr.rb, hKD.fr.low.drew⟩)).mono ?_; rintro e w7 ⟨g7, cp7, rfl, hk7, hF7, hb7d⟩; have hb7 : Below wD.heap.size wD w7 := (Below.refl _ _).drew.trans hb7d; have k0 := (hb7.cell (p := ⟨w.heap.size, 0, none⟩) hltA).trans c0; have k1 := (hb7.cell (p := ⟨w.heap.size, 1, none⟩) hltA).trans c1; have k2 := (hb7.cell (p := ⟨w.heap.size, 2, none⟩) hltA).trans c2; have k3 := (hb7.cell (p := ⟨w.heap.size + 1, 0, none⟩) hltB).trans d0; have k4 := (hb7.cell (p := ⟨w.heap.size + 1, 1, none⟩) hltB).trans d1; have k5 := (hb7.cell (p := ⟨w.heap.size + 1, 2, none⟩) hltB).trans d2; have k6 := (hb7.cell (p := ⟨w.heap.size + 1, 3, none⟩) hltB).trans d3; have k7 := (hb7.cell (p := ⟨w.heap.size + 1, 4, none⟩) hltB).trans d4; have k8 := (hb7.cell (p := ⟨w.heap.size + 2, 0, none⟩) hltC).trans s0; have k9 := (hb7.cell (p := ⟨w.heap.size + 2, 1, none⟩) hltC).trans s1)
           | (go_at_call 20; refine (HCP.out _ (HR.out _ ((hKD.below hb7).fr))).mono ?_; rintro e w8 ⟨r8, rfl, hS8, hO8, hb8⟩; have hb87 : Below wD.heap.size wD w8 := hb7.trans (hb8.mono hb7.size); have k0 := (hb87.cell (p := ⟨w.heap.size, 0, none⟩) hltA).trans c0; have k1 := (hb87.cell (p := ⟨w.heap.size, 1, none⟩) hltA).trans c1; have k2 := (hb87.cell (p := ⟨w.heap.size, 2, none⟩) hltA).trans c2; have k3 := (hb87.cell (p := ⟨w.heap.size + 1, 0, none⟩) hltB).trans d0; have k4 := (hb87.cell (p := ⟨w.heap.size + 1, 1, none⟩) hltB).trans d1; have k5 := (hb87.cell (p := ⟨w.heap.size + 1, 2, none⟩) hltB).trans d2; have k6 := (hb87.cell (p := ⟨w.heap.size + 1, 3, none⟩) hltB).trans d3; have k7 := (hb87.cell (p := ⟨w.heap.size + 1, 4, none⟩) hltB).trans d4; have k8 := (hb87.cell (p := ⟨w.heap.size + 2, 0, none⟩) hltC).trans s0; have k9 := (hb87.cell (p := ⟨w.heap.size + 2, 1, none⟩) hltC).trans s1)
           | (go_at_call 48; refine (HCL.out _ A8 l2 q8 _ (hI8.below hb87) (by omega)).mono ?_; rintro e w9 ⟨g9, cp9, rfl, ho9, hb9d⟩; have hX9 := (IRow.ints ho9).2; have hb9 : Below wD.heap.size wD w9 := hb87.trans (hb9d.mono hb87.size); have k0 := (hb9.cell (p := ⟨w.heap.size, 0, none⟩) hltA).trans c0; have k1 := (hb9.cell (p := ⟨w.heap.size, 1, none⟩) hltA).trans c1; have k2 := (hb9.cell (p := ⟨w.heap.size, 2, none⟩) hltA).trans c2; have k3 := (hb9.cell (p := ⟨w.heap.size + 1, 0, none⟩) hltB).trans d0; have k4 := (hb9.cell (p := ⟨w.heap.size + 1, 1, none⟩) hltB).trans d1; have k5 := (hb9.cell (p := ⟨w.heap.size + 1, 2, none⟩) hltB).trans d2; have k6 := (hb9.cell (p := ⟨w.heap.size + 1, 3, none⟩) hltB).trans d3; have k7 := (hb9.cell (p := ⟨w.heap.size + 1, 4, none⟩) hltB).trans d4; have k8 := (hb9.cell (p := ⟨w.heap.size + 2, 0, none⟩) hltC).trans s0; have k9 := (hb9.cell (p := ⟨w.heap.size + 2, 1, none⟩) hltC).trans s1)
           | (go_at_call 47; refine (HC2.out _ r8 g7 cp7 g9 cp9 ((hF7.below hb8).below hb9d) ((HAT.out _ _ hS8 _ hO8).below hb9d) hS8 hX9).mono ?_; rintro e wE ⟨rfl, hbAd⟩; have hbA : Below wD.heap.size wD wE := hb9.trans (hbAd.mono hb9.size); have k0 := (hbA.cell (p := ⟨w.heap.size, 0, none⟩) hltA).trans c0; have k1 := (hbA.cell (p := ⟨w.heap.size, 1, none⟩) hltA).trans c1; have k2 := (hbA.cell (p := ⟨w.heap.size, 2, none⟩) hltA).trans c2; have k3 := (hbA.cell (p := ⟨w.heap.size + 1, 0, none⟩) hltB).trans d0; have k4 := (hbA.cell (p := ⟨w.heap.size + 1, 1, none⟩) hltB).trans d1; have k5 := (hbA.cell (p := ⟨w.heap.size + 1, 2, none⟩) hltB).trans d2; have k6 := (hbA.cell (p := ⟨w.heap.size + 1, 3, none⟩) hltB).trans d3; have k7 := (hbA.cell (p := ⟨w.heap.size + 1, 4, none⟩) hltB).trans d4; have k8 := (hbA.cell (p := ⟨w.heap.size + 2, 0, none⟩) hltC).trans s0; have k9 := (hbA.cell (p := ⟨w.heap.size + 2, 1, none⟩) hltC).trans s1))
        have hKE := hKD.below hbA
        have hlow := hKE.fr.low
        clear c0 c1 c2 d0 d1 d2 d3 d4 s0 s1 k0 k1 k2 k3 k4 k5 k6 k7 k8 k9 hltA hltB hltC hb7 hb7d hb8 hb87 hF7 hO8 hS8 hbAd hbA hKD ho9 hX9 hb9 hb9d hI8
        go_wp2
        go_ret
        exact ⟨rfl, hlow⟩
    · obtain ⟨c0, c1, c2⟩ := hKB.fr.fc
      obtain ⟨d0, d1, d2, d3, d4⟩ := hKB.fr.rc
      obtain ⟨s0, s1⟩ := hKB.sc
      go_wp2_with fail
      rename_i Q9 K1 hK1
      refine Code.wp_mono (Q := Exit.then K1 (fun _ _ _ => False)) (fun e a w h => by cases e <;> first | exact h | exact h.elim) ?_
      refine wp_region_held (S := (fun w' => w'.cell? ⟨w.heap.size, 0, none⟩ = some (.string f.name) ∧ w'.cell? ⟨w.heap.size, 1, none⟩ = some (.int .i64 f.body) ∧ w'.cell? ⟨w.heap.size, 2, none⟩ = some (.slice a f.sorts.length c) ∧ w'.cell? ⟨w.heap.size + 1, 0, none⟩ = some (.slice r.ps.a r.ps.l.length r.ps.c) ∧ w'.cell? ⟨w.heap.size + 1, 1, none⟩ = some (.slice r.es.a r.es.l.length r.es.c) ∧ w'.cell? ⟨w.heap.size + 1, 2, none⟩ = some (.slice r.bs.a r.bs.l.length r.bs.c) ∧ w'.cell? ⟨w.heap.size + 1, 3, none⟩ = some (.int .i64 r.left) ∧ w'.cell? ⟨w.heap.size + 1, 4, none⟩ = some (.int .i64 r.right) ∧ w'.cell? ⟨w.heap.size + 2, 0, none⟩ = some (.string s) ∧ w'.cell? ⟨w.heap.size + 2, 1, none⟩ = some (.slice b l.length d))) (by kernel_rfl) ?_
      change wpAnyH _ _ _ _ _ _ _ _ wB.drew
      have hKD0 : CSK w f a c r s b l d wB.drew := ⟨⟨hKB.fr.fb, hKB.fr.rb, hKB.fr.low.drew⟩, hKB.sb⟩
      have hS := (show _ ∧ _ ∧ _ ∧ _ ∧ _ ∧ _ ∧ _ ∧ _ ∧ _ ∧ _ from ⟨hKD0.fr.fc.1, hKD0.fr.fc.2.1, hKD0.fr.fc.2.2, hKD0.fr.rc.1, hKD0.fr.rc.2.1, hKD0.fr.rc.2.2.1, hKD0.fr.rc.2.2.2.1, hKD0.fr.rc.2.2.2.2, hKD0.sc.1, hKD0.sc.2⟩)
      clear c0 c1 c2 d0 d1 d2 d3 d4 s0 s1
      refine takeL (i := 0) (v := .agg #[.string f.name, .int .i64 f.body, .slice a f.sorts.length c]) rfl (by kernel_rfl) (by kernel_rfl) (by kernel_rfl) (fun _ _ _ h => h.elim) (Or.inl ⟨by rfl, fun V9 h9 => by dsimp only at h9; go_simp⟩) (by assumption) ?_
      try simp only [Act.put, List.setIfInBounds_toArray, List.set_cons_zero, List.set_cons_succ]
      refine takeL (i := 2) (v := .agg #[.slice r.ps.a r.ps.l.length r.ps.c, .slice r.es.a r.es.l.length r.es.c, .slice r.bs.a r.bs.l.length r.bs.c, .int .i64 r.left, .int .i64 r.right]) rfl (by kernel_rfl) (by kernel_rfl) (by kernel_rfl) (fun _ _ _ h => h.elim) (Or.inl ⟨by rfl, fun V9 h9 => by dsimp only at h9; go_simp⟩) (by assumption) ?_
      try simp only [Act.put, List.setIfInBounds_toArray, List.set_cons_zero, List.set_cons_succ]
      refine takeL (i := 4) (v := .pointer (some ⟨w.heap.size + 1 + 1, 0, none⟩)) rfl (by kernel_rfl) (by kernel_rfl) (by kernel_rfl) (fun _ _ _ h => h.elim) (Or.inl ⟨by rfl, fun V9 h9 => by dsimp only at h9; go_simp⟩) (by assumption) ?_
      try simp only [Act.put, List.setIfInBounds_toArray, List.set_cons_zero, List.set_cons_succ]
      refine takeL (i := 5) (v := .string s) rfl (by kernel_rfl) (by kernel_rfl) (by kernel_rfl) (fun _ _ _ h => h.elim) (Or.inl ⟨by rfl, fun V9 h9 => by dsimp only at h9; go_simp⟩) (by assumption) ?_
      try simp only [Act.put, List.setIfInBounds_toArray, List.set_cons_zero, List.set_cons_succ]
      refine takeL (i := 6) (v := .slice A7 ls.length q7) rfl (by kernel_rfl) (by kernel_rfl) (by kernel_rfl) (fun _ _ _ h => h.elim) (Or.inl ⟨by rfl, fun V9 h9 => by dsimp only at h9; go_simp⟩) (by assumption) ?_
      try simp only [Act.put, List.setIfInBounds_toArray, List.set_cons_zero, List.set_cons_succ]
      refine wpAnyH_ready (rs := [1]) (by kernel_rfl) (by simp) (consL rfl (fun K9 hK9 => ?_) AllReadyH.nil)
      go_simp
      refine (HCF.out _ hKD0.fr).mono ?_
      rintro e w7 ⟨g7, cp7, rfl, hk7, hF7, hb7d⟩
      have hK7 := hKD0.below hb7d
      refine hK9.out _ _ ⟨hK7.fr.fc.1, hK7.fr.fc.2.1, hK7.fr.fc.2.2, hK7.fr.rc.1, hK7.fr.rc.2.1, hK7.fr.rc.2.2.1, hK7.fr.rc.2.2.2.1, hK7.fr.rc.2.2.2.2, hK7.sc.1, hK7.sc.2⟩ (fun hS => ?_)
      clear hK9 K9
      try simp only [Act.put, List.setIfInBounds_toArray, List.set_cons_zero, List.set_cons_succ]
      refine wpAnyH_ready (rs := [3]) (by kernel_rfl) (by simp) (consL rfl (fun K9 hK9 => ?_) AllReadyH.nil)
      go_simp
      refine (HCP.out _ (HR.out _ hK7.fr)).mono ?_
      rintro e w8 ⟨r8, rfl, hS8, hO8, hb8⟩
      have hK8 := hK7.below hb8
      refine hK9.out _ _ ⟨hK8.fr.fc.1, hK8.fr.fc.2.1, hK8.fr.fc.2.2, hK8.fr.rc.1, hK8.fr.rc.2.1, hK8.fr.rc.2.2.1, hK8.fr.rc.2.2.2.1, hK8.fr.rc.2.2.2.2, hK8.sc.1, hK8.sc.2⟩ (fun hS => ?_)
      clear hK9 K9
      try simp only [Act.put, List.setIfInBounds_toArray, List.set_cons_zero, List.set_cons_succ]
      refine wpAnyH_ready (rs := [7]) (by kernel_rfl) (by simp) (consL rfl (fun K9 hK9 => ?_) AllReadyH.nil)
      go_simp
      refine (HCL.out _ A7 ls q7 _ (((IRow.drew hIB).below hb7d).below hb8) (by omega)).mono ?_
      rintro e w9 ⟨g9, cp9, rfl, ho9, hb9d⟩
      have hX9 := (IRow.ints ho9).2
      have hK9' := hK8.below hb9d
      refine hK9.out _ _ ⟨hK9'.fr.fc.1, hK9'.fr.fc.2.1, hK9'.fr.fc.2.2, hK9'.fr.rc.1, hK9'.fr.rc.2.1, hK9'.fr.rc.2.2.1, hK9'.fr.rc.2.2.2.1, hK9'.fr.rc.2.2.2.2, hK9'.sc.1, hK9'.sc.2⟩ (fun hS => ?_)
      clear hK9 K9
      try simp only [Act.put, List.setIfInBounds_toArray, List.set_cons_zero, List.set_cons_succ]
      refine takeL (i := 8) (v := .agg #[.string s, .slice (some ⟨g9, 0, none⟩) ls.length cp9]) rfl (by kernel_rfl) (by kernel_rfl) (by kernel_rfl) (fun _ _ _ h => h.elim) (Or.inl ⟨by rfl, fun V9 h9 => by dsimp only at h9; go_simp⟩) (by assumption) ?_
      try simp only [Act.put, List.setIfInBounds_toArray, List.set_cons_zero, List.set_cons_succ]
      refine wpAnyH_ready (rs := [9]) (by kernel_rfl) (by simp) (consL rfl (fun K9 hK9 => ?_) AllReadyH.nil)
      go_simp
      refine (HC1.out _ r8 g7 cp7 g9 cp9 ((hF7.below hb8).below hb9d) ((HAT.out _ _ hS8 _ hO8).below hb9d) hS8 hX9).mono ?_
      rintro e wC ⟨rfl, hbAd⟩
      have hKC := hK9'.below hbAd
      refine hK9.out _ _ ⟨hKC.fr.fc.1, hKC.fr.fc.2.1, hKC.fr.fc.2.2, hKC.fr.rc.1, hKC.fr.rc.2.1, hKC.fr.rc.2.2.1, hKC.fr.rc.2.2.2.1, hKC.fr.rc.2.2.2.2, hKC.sc.1, hKC.sc.2⟩ (fun hS => ?_)
      clear hK9 K9
      try simp only [Act.put, List.setIfInBounds_toArray, List.set_cons_zero, List.set_cons_succ]
      refine takeL (i := 10) (v := .bool false) rfl (by kernel_rfl) (by kernel_rfl) (by kernel_rfl) (fun _ _ _ h => h.elim) (Or.inl ⟨by rfl, fun V9 h9 => by dsimp only at h9; go_simp⟩) (by assumption) ?_
      try simp only [Act.put, List.setIfInBounds_toArray, List.set_cons_zero, List.set_cons_succ]
      refine takeL (i := 11) (v := .bool false) rfl (by kernel_rfl) (by kernel_rfl) (by kernel_rfl) (fun _ _ _ h => h.elim) (Or.inl ⟨by rfl, fun V9 h9 => by dsimp only at h9; go_simp⟩) (by assumption) ?_
      try simp only [Act.put, List.setIfInBounds_toArray, List.set_cons_zero, List.set_cons_succ]
      refine takeL (i := 12) (v := .int .i64 own) rfl (by kernel_rfl) (by kernel_rfl) (by kernel_rfl) (fun _ _ _ h => h.elim) (Or.inl ⟨by rfl, fun V9 h9 => by dsimp only at h9; go_simp⟩) (by assumption) ?_
      try simp only [Act.put, List.setIfInBounds_toArray, List.set_cons_zero, List.set_cons_succ]
      refine takeL (i := 13) (v := .bool false) rfl (by kernel_rfl) (by kernel_rfl) (by kernel_rfl) (fun _ _ _ h => h.elim) (Or.inl ⟨by rfl, fun V9 h9 => by dsimp only at h9; go_simp⟩) (by assumption) ?_
      try simp only [Act.put, List.setIfInBounds_toArray, List.set_cons_zero, List.set_cons_succ]
      refine takeL (i := 14) (v := .bool false) rfl (by kernel_rfl) (by kernel_rfl) (by kernel_rfl) (fun _ _ _ h => h.elim) (Or.inl ⟨by rfl, fun V9 h9 => by dsimp only at h9; go_simp⟩) (by assumption) ?_
      try simp only [Act.put, List.setIfInBounds_toArray, List.set_cons_zero, List.set_cons_succ]
      refine takeL (i := 15) (v := undef) rfl (by kernel_rfl) (by kernel_rfl) (by kernel_rfl) (fun _ _ _ h => h.elim) (Or.inr ⟨by rfl, rfl⟩) (by assumption) ?_
      try simp only [Act.put, List.setIfInBounds_toArray, List.set_cons_zero, List.set_cons_succ]
      refine takeL (i := 16) (v := undef) rfl (by kernel_rfl) (by kernel_rfl) (by kernel_rfl) (fun _ _ _ h => h.elim) (Or.inr ⟨by rfl, rfl⟩) (by assumption) ?_
      try simp only [Act.put, List.setIfInBounds_toArray, List.set_cons_zero, List.set_cons_succ]
      refine takeL (i := 17) (v := undef) rfl (by kernel_rfl) (by kernel_rfl) (by kernel_rfl) (fun _ _ _ h => h.elim) (Or.inr ⟨by rfl, rfl⟩) (by assumption) ?_
      try simp only [Act.put, List.setIfInBounds_toArray, List.set_cons_zero, List.set_cons_succ]
      refine takeL (i := 18) (v := undef) rfl (by kernel_rfl) (by kernel_rfl) (by kernel_rfl) (fun _ _ _ h => h.elim) (Or.inr ⟨by rfl, rfl⟩) (by assumption) ?_
      try simp only [Act.put, List.setIfInBounds_toArray, List.set_cons_zero, List.set_cons_succ]
      refine takeL (i := 19) (v := undef) rfl (by kernel_rfl) (by kernel_rfl) (by kernel_rfl) (fun _ _ _ h => h.elim) (Or.inr ⟨by rfl, rfl⟩) (by assumption) ?_
      try simp only [Act.put, List.setIfInBounds_toArray, List.set_cons_zero, List.set_cons_succ]
      refine takeL (i := 20) (v := undef) rfl (by kernel_rfl) (by kernel_rfl) (by kernel_rfl) (fun _ _ _ h => h.elim) (Or.inr ⟨by rfl, rfl⟩) (by assumption) ?_
      try simp only [Act.put, List.setIfInBounds_toArray, List.set_cons_zero, List.set_cons_succ]
      refine takeL (i := 21) (v := .bool false) rfl (by kernel_rfl) (by kernel_rfl) (by kernel_rfl) (fun _ _ _ h => h.elim) (Or.inl ⟨by rfl, fun V9 h9 => by dsimp only at h9; go_simp⟩) (by assumption) ?_
      try simp only [Act.put, List.setIfInBounds_toArray, List.set_cons_zero, List.set_cons_succ]
      refine takeL (i := 22) (v := .bool false) rfl (by kernel_rfl) (by kernel_rfl) (by kernel_rfl) (fun _ _ _ h => h.elim) (Or.inl ⟨by rfl, fun V9 h9 => by dsimp only at h9; go_simp⟩) (by assumption) ?_
      try simp only [Act.put, List.setIfInBounds_toArray, List.set_cons_zero, List.set_cons_succ]
      have hIC := ((((IRow.drew hIB).below hb7d).below hb8).below hb9d).below hbAd
      refine wpAnyH_done (by kernel_rfl) ?_ _
      refine hK1 _ _ ?_
      clear hS hK1 hKB hKD0 hK7 hK8 hK9' hIB hF7 hb7d hb8 hb9d hbAd hO8 hS8 hX9 ho9
      clear HC1 HCO HFS HCI
      cases oL with
      | none =>
        obtain ⟨c0, c1, c2⟩ := hKC.fr.fc
        obtain ⟨d0, d1, d2, d3, d4⟩ := hKC.fr.rc
        obtain ⟨s0, s1⟩ := hKC.sc
        have hltC : w.heap.size + 2 < wC.heap.size := heap_lt hKC.sb
        have hltA : w.heap.size < wC.heap.size := by omega
        have hltB : w.heap.size + 1 < wC.heap.size := by omega
        go_wp2_with fail
        go_region_held3 (fun w' => w'.cell? ⟨w.heap.size, 0, none⟩ = some (.string f.name) ∧ w'.cell? ⟨w.heap.size, 1, none⟩ = some (.int .i64 f.body) ∧ w'.cell? ⟨w.heap.size, 2, none⟩ = some (.slice a f.sorts.length c) ∧ w'.cell? ⟨w.heap.size + 1, 0, none⟩ = some (.slice r.ps.a r.ps.l.length r.ps.c) ∧ w'.cell? ⟨w.heap.size + 1, 1, none⟩ = some (.slice r.es.a r.es.l.length r.es.c) ∧ w'.cell? ⟨w.heap.size + 1, 2, none⟩ = some (.slice r.bs.a r.bs.l.length r.bs.c) ∧ w'.cell? ⟨w.heap.size + 1, 3, none⟩ = some (.int .i64 r.left) ∧ w'.cell? ⟨w.heap.size + 1, 4, none⟩ = some (.int .i64 r.right) ∧ w'.cell? ⟨w.heap.size + 2, 0, none⟩ = some (.string s) ∧ w'.cell? ⟨w.heap.size + 2, 1, none⟩ = some (.slice b l.length d)) (go_keep)
          (first
           | (go_at_call 38; refine (HCF.out _ (by first | exact hKC.fr | exact ⟨hKC.fr.fb, hKC.fr.rb, hKC.fr.low.drew⟩)).mono ?_; rintro e w7 ⟨g7, cp7, rfl, hk7, hF7, hb7d⟩; have hb7 : Below wC.heap.size wC w7 := (Below.refl _ _).drew.trans hb7d; have k0 := (hb7.cell (p := ⟨w.heap.size, 0, none⟩) hltA).trans c0; have k1 := (hb7.cell (p := ⟨w.heap.size, 1, none⟩) hltA).trans c1; have k2 := (hb7.cell (p := ⟨w.heap.size, 2, none⟩) hltA).trans c2; have k3 := (hb7.cell (p := ⟨w.heap.size + 1, 0, none⟩) hltB).trans d0; have k4 := (hb7.cell (p := ⟨w.heap.size + 1, 1, none⟩) hltB).trans d1; have k5 := (hb7.cell (p := ⟨w.heap.size + 1, 2, none⟩) hltB).trans d2; have k6 := (hb7.cell (p := ⟨w.heap.size + 1, 3, none⟩) hltB).trans d3; have k7 := (hb7.cell (p := ⟨w.heap.size + 1, 4, none⟩) hltB).trans d4; have k8 := (hb7.cell (p := ⟨w.heap.size + 2, 0, none⟩) hltC).trans s0; have k9 := (hb7.cell (p := ⟨w.heap.size + 2, 1, none⟩) hltC).trans s1)
           | (go_at_call 20; refine (HCP.out _ (HR.out _ ((hKC.below hb7).fr))).mono ?_; rintro e w8 ⟨r8, rfl, hS8, hO8, hb8⟩; have hb87 : Below wC.heap.size wC w8 := hb7.trans (hb8.mono hb7.size); have k0 := (hb87.cell (p := ⟨w.heap.size, 0, none⟩) hltA).trans c0; have k1 := (hb87.cell (p := ⟨w.heap.size, 1, none⟩) hltA).trans c1; have k2 := (hb87.cell (p := ⟨w.heap.size, 2, none⟩) hltA).trans c2; have k3 := (hb87.cell (p := ⟨w.heap.size + 1, 0, none⟩) hltB).trans d0; have k4 := (hb87.cell (p := ⟨w.heap.size + 1, 1, none⟩) hltB).trans d1; have k5 := (hb87.cell (p := ⟨w.heap.size + 1, 2, none⟩) hltB).trans d2; have k6 := (hb87.cell (p := ⟨w.heap.size + 1, 3, none⟩) hltB).trans d3; have k7 := (hb87.cell (p := ⟨w.heap.size + 1, 4, none⟩) hltB).trans d4; have k8 := (hb87.cell (p := ⟨w.heap.size + 2, 0, none⟩) hltC).trans s0; have k9 := (hb87.cell (p := ⟨w.heap.size + 2, 1, none⟩) hltC).trans s1)
           | (go_at_call 39; refine (HLS.out _ r8 g7 cp7 (hF7.below hb8) (HAT.out _ _ hS8 _ hO8) hS8).mono ?_; rintro e wD ⟨hbAd, rfl⟩; have hbA : Below wC.heap.size wC wD := hb87.trans (hbAd.mono hb87.size); have k0 := (hbA.cell (p := ⟨w.heap.size, 0, none⟩) hltA).trans c0; have k1 := (hbA.cell (p := ⟨w.heap.size, 1, none⟩) hltA).trans c1; have k2 := (hbA.cell (p := ⟨w.heap.size, 2, none⟩) hltA).trans c2; have k3 := (hbA.cell (p := ⟨w.heap.size + 1, 0, none⟩) hltB).trans d0; have k4 := (hbA.cell (p := ⟨w.heap.size + 1, 1, none⟩) hltB).trans d1; have k5 := (hbA.cell (p := ⟨w.heap.size + 1, 2, none⟩) hltB).trans d2; have k6 := (hbA.cell (p := ⟨w.heap.size + 1, 3, none⟩) hltB).trans d3; have k7 := (hbA.cell (p := ⟨w.heap.size + 1, 4, none⟩) hltB).trans d4; have k8 := (hbA.cell (p := ⟨w.heap.size + 2, 0, none⟩) hltC).trans s0; have k9 := (hbA.cell (p := ⟨w.heap.size + 2, 1, none⟩) hltC).trans s1))
        have hKD := hKC.below hbA
        have hlow := hKD.fr.low
        clear c0 c1 c2 d0 d1 d2 d3 d4 s0 s1 k0 k1 k2 k3 k4 k5 k6 k7 k8 k9 hltA hltB hltC hb7 hb7d hb8 hb87 hF7 hO8 hS8 hbAd hbA hKC 
        go_wp2
        go_ret
        exact ⟨rfl, hlow⟩
      | some l2 =>
        obtain ⟨hlo1, hlo2⟩ := HLO.out l2 rfl
        have hmin := HSM.out l2 hlo1
        have hge : (ls.length : Int) ≤ (l2.length : Int) := by omega
        have hgd : decide ((ls.length : Int) ≤ (l2.length : Int)) = true := decide_eq_true hge
        have hgd2 : decide (ls.length ≤ l2.length) = true := decide_eq_true hmin
        have HC2 := Lib.hid (fun W r2 g k g2 k2 h1 h2 h3 h4 => HCS.out W r2 g k g2 k2 l2 h1 h2 h3 h4 (by omega))
        rw [hlo1] at HC2
        clear hlo1
        obtain ⟨c0, c1, c2⟩ := hKC.fr.fc
        obtain ⟨d0, d1, d2, d3, d4⟩ := hKC.fr.rc
        obtain ⟨s0, s1⟩ := hKC.sc
        have hltC : w.heap.size + 2 < wC.heap.size := heap_lt hKC.sb
        have hltA : w.heap.size < wC.heap.size := by omega
        have hltB : w.heap.size + 1 < wC.heap.size := by omega
        go_wp2_with fail
        go_region_held3 (fun w' => w'.cell? ⟨w.heap.size, 0, none⟩ = some (.string f.name) ∧ w'.cell? ⟨w.heap.size, 1, none⟩ = some (.int .i64 f.body) ∧ w'.cell? ⟨w.heap.size, 2, none⟩ = some (.slice a f.sorts.length c) ∧ w'.cell? ⟨w.heap.size + 1, 0, none⟩ = some (.slice r.ps.a r.ps.l.length r.ps.c) ∧ w'.cell? ⟨w.heap.size + 1, 1, none⟩ = some (.slice r.es.a r.es.l.length r.es.c) ∧ w'.cell? ⟨w.heap.size + 1, 2, none⟩ = some (.slice r.bs.a r.bs.l.length r.bs.c) ∧ w'.cell? ⟨w.heap.size + 1, 3, none⟩ = some (.int .i64 r.left) ∧ w'.cell? ⟨w.heap.size + 1, 4, none⟩ = some (.int .i64 r.right) ∧ w'.cell? ⟨w.heap.size + 2, 0, none⟩ = some (.string s) ∧ w'.cell? ⟨w.heap.size + 2, 1, none⟩ = some (.slice b l.length d)) (go_keep)
          (first
           | (go_at_call 38; refine (HCF.out _ (by first | exact hKC.fr | exact ⟨hKC.fr.fb, hKC.fr.rb, hKC.fr.low.drew⟩)).mono ?_; rintro e w7 ⟨g7, cp7, rfl, hk7, hF7, hb7d⟩; have hb7 : Below wC.heap.size wC w7 := (Below.refl _ _).drew.trans hb7d; have k0 := (hb7.cell (p := ⟨w.heap.size, 0, none⟩) hltA).trans c0; have k1 := (hb7.cell (p := ⟨w.heap.size, 1, none⟩) hltA).trans c1; have k2 := (hb7.cell (p := ⟨w.heap.size, 2, none⟩) hltA).trans c2; have k3 := (hb7.cell (p := ⟨w.heap.size + 1, 0, none⟩) hltB).trans d0; have k4 := (hb7.cell (p := ⟨w.heap.size + 1, 1, none⟩) hltB).trans d1; have k5 := (hb7.cell (p := ⟨w.heap.size + 1, 2, none⟩) hltB).trans d2; have k6 := (hb7.cell (p := ⟨w.heap.size + 1, 3, none⟩) hltB).trans d3; have k7 := (hb7.cell (p := ⟨w.heap.size + 1, 4, none⟩) hltB).trans d4; have k8 := (hb7.cell (p := ⟨w.heap.size + 2, 0, none⟩) hltC).trans s0; have k9 := (hb7.cell (p := ⟨w.heap.size + 2, 1, none⟩) hltC).trans s1)
           | (go_at_call 20; refine (HCP.out _ (HR.out _ ((hKC.below hb7).fr))).mono ?_; rintro e w8 ⟨r8, rfl, hS8, hO8, hb8⟩; have hb87 : Below wC.heap.size wC w8 := hb7.trans (hb8.mono hb7.size); have k0 := (hb87.cell (p := ⟨w.heap.size, 0, none⟩) hltA).trans c0; have k1 := (hb87.cell (p := ⟨w.heap.size, 1, none⟩) hltA).trans c1; have k2 := (hb87.cell (p := ⟨w.heap.size, 2, none⟩) hltA).trans c2; have k3 := (hb87.cell (p := ⟨w.heap.size + 1, 0, none⟩) hltB).trans d0; have k4 := (hb87.cell (p := ⟨w.heap.size + 1, 1, none⟩) hltB).trans d1; have k5 := (hb87.cell (p := ⟨w.heap.size + 1, 2, none⟩) hltB).trans d2; have k6 := (hb87.cell (p := ⟨w.heap.size + 1, 3, none⟩) hltB).trans d3; have k7 := (hb87.cell (p := ⟨w.heap.size + 1, 4, none⟩) hltB).trans d4; have k8 := (hb87.cell (p := ⟨w.heap.size + 2, 0, none⟩) hltC).trans s0; have k9 := (hb87.cell (p := ⟨w.heap.size + 2, 1, none⟩) hltC).trans s1)
           | (go_at_call 39; refine (HLS.out _ r8 g7 cp7 (hF7.below hb8) (HAT.out _ _ hS8 _ hO8) hS8).mono ?_; rintro e wD ⟨hbAd, A8, q8, rfl, hI8⟩; have hbA : Below wC.heap.size wC wD := hb87.trans (hbAd.mono hb87.size); have k0 := (hbA.cell (p := ⟨w.heap.size, 0, none⟩) hltA).trans c0; have k1 := (hbA.cell (p := ⟨w.heap.size, 1, none⟩) hltA).trans c1; have k2 := (hbA.cell (p := ⟨w.heap.size, 2, none⟩) hltA).trans c2; have k3 := (hbA.cell (p := ⟨w.heap.size + 1, 0, none⟩) hltB).trans d0; have k4 := (hbA.cell (p := ⟨w.heap.size + 1, 1, none⟩) hltB).trans d1; have k5 := (hbA.cell (p := ⟨w.heap.size + 1, 2, none⟩) hltB).trans d2; have k6 := (hbA.cell (p := ⟨w.heap.size + 1, 3, none⟩) hltB).trans d3; have k7 := (hbA.cell (p := ⟨w.heap.size + 1, 4, none⟩) hltB).trans d4; have k8 := (hbA.cell (p := ⟨w.heap.size + 2, 0, none⟩) hltC).trans s0; have k9 := (hbA.cell (p := ⟨w.heap.size + 2, 1, none⟩) hltC).trans s1))
        have hKD := hKC.below hbA
        clear c0 c1 c2 d0 d1 d2 d3 d4 s0 s1 k0 k1 k2 k3 k4 k5 k6 k7 k8 k9 hltA hltB hltC hb7 hb7d hb8 hb87 hF7 hO8 hS8 hbAd hbA hKC  hIC
        obtain ⟨c0, c1, c2⟩ := hKD.fr.fc
        obtain ⟨d0, d1, d2, d3, d4⟩ := hKD.fr.rc
        obtain ⟨s0, s1⟩ := hKD.sc
        have hltC : w.heap.size + 2 < wD.heap.size := heap_lt hKD.sb
        have hltA : w.heap.size < wD.heap.size := by omega
        have hltB : w.heap.size + 1 < wD.heap.size := by omega
        go_wp2_with fail
        go_region_held3 (fun w' => w'.cell? ⟨w.heap.size, 0, none⟩ = some (.string f.name) ∧ w'.cell? ⟨w.heap.size, 1, none⟩ = some (.int .i64 f.body) ∧ w'.cell? ⟨w.heap.size, 2, none⟩ = some (.slice a f.sorts.length c) ∧ w'.cell? ⟨w.heap.size + 1, 0, none⟩ = some (.slice r.ps.a r.ps.l.length r.ps.c) ∧ w'.cell? ⟨w.heap.size + 1, 1, none⟩ = some (.slice r.es.a r.es.l.length r.es.c) ∧ w'.cell? ⟨w.heap.size + 1, 2, none⟩ = some (.slice r.bs.a r.bs.l.length r.bs.c) ∧ w'.cell? ⟨w.heap.size + 1, 3, none⟩ = some (.int .i64 r.left) ∧ w'.cell? ⟨w.heap.size + 1, 4, none⟩ = some (.int .i64 r.right) ∧ w'.cell? ⟨w.heap.size + 2, 0, none⟩ = some (.string s) ∧ w'.cell? ⟨w.heap.size + 2, 1, none⟩ = some (.slice b l.length d)) (go_keep)
          (first
           | (go_at_call 38; refine (HCF.out _ (by first | exact hKD.fr | exact ⟨hKD.fr.fb, hKD.fr.rb, hKD.fr.low.drew⟩)).mono ?_; rintro e w7 ⟨g7, cp7, rfl, hk7, hF7, hb7d⟩; have hb7 : Below wD.heap.size wD w7 := (Below.refl _ _).drew.trans hb7d; have k0 := (hb7.cell (p := ⟨w.heap.size, 0, none⟩) hltA).trans c0; have k1 := (hb7.cell (p := ⟨w.heap.size, 1, none⟩) hltA).trans c1; have k2 := (hb7.cell (p := ⟨w.heap.size, 2, none⟩) hltA).trans c2; have k3 := (hb7.cell (p := ⟨w.heap.size + 1, 0, none⟩) hltB).trans d0; have k4 := (hb7.cell (p := ⟨w.heap.size + 1, 1, none⟩) hltB).trans d1; have k5 := (hb7.cell (p := ⟨w.heap.size + 1, 2, none⟩) hltB).trans d2; have k6 := (hb7.cell (p := ⟨w.heap.size + 1, 3, none⟩) hltB).trans d3; have k7 := (hb7.cell (p := ⟨w.heap.size + 1, 4, none⟩) hltB).trans d4; have k8 := (hb7.cell (p := ⟨w.heap.size + 2, 0, none⟩) hltC).trans s0; have k9 := (hb7.cell (p := ⟨w.heap.size + 2, 1, none⟩) hltC).trans s1)
           | (go_at_call 20; refine (HCP.out _ (HR.out _ ((hKD.below hb7).fr))).mono ?_; rintro e w8 ⟨r8, rfl, hS8, hO8, hb8⟩; have hb87 : Below wD.heap.size wD w8 := hb7.trans (hb8.mono hb7.size); have k0 := (hb87.cell (p := ⟨w.heap.size, 0, none⟩) hltA).trans c0; have k1 := (hb87.cell (p := ⟨w.heap.size, 1, none⟩) hltA).trans c1; have k2 := (hb87.cell (p := ⟨w.heap.size, 2, none⟩) hltA).trans c2; have k3 := (hb87.cell (p := ⟨w.heap.size + 1, 0, none⟩) hltB).trans d0; have k4 := (hb87.cell (p := ⟨w.heap.size + 1, 1, none⟩) hltB).trans d1; have k5 := (hb87.cell (p := ⟨w.heap.size + 1, 2, none⟩) hltB).trans d2; have k6 := (hb87.cell (p := ⟨w.heap.size + 1, 3, none⟩) hltB).trans d3; have k7 := (hb87.cell (p := ⟨w.heap.size + 1, 4, none⟩) hltB).trans d4; have k8 := (hb87.cell (p := ⟨w.heap.size + 2, 0, none⟩) hltC).trans s0; have k9 := (hb87.cell (p := ⟨w.heap.size + 2, 1, none⟩) hltC).trans s1)
           | (go_at_call 48; refine (HCL.out _ A8 l2 q8 _ (hI8.below hb87) (by omega)).mono ?_; rintro e w9 ⟨g9, cp9, rfl, ho9, hb9d⟩; have hX9 := (IRow.ints ho9).2; have hb9 : Below wD.heap.size wD w9 := hb87.trans (hb9d.mono hb87.size); have k0 := (hb9.cell (p := ⟨w.heap.size, 0, none⟩) hltA).trans c0; have k1 := (hb9.cell (p := ⟨w.heap.size, 1, none⟩) hltA).trans c1; have k2 := (hb9.cell (p := ⟨w.heap.size, 2, none⟩) hltA).trans c2; have k3 := (hb9.cell (p := ⟨w.heap.size + 1, 0, none⟩) hltB).trans d0; have k4 := (hb9.cell (p := ⟨w.heap.size + 1, 1, none⟩) hltB).trans d1; have k5 := (hb9.cell (p := ⟨w.heap.size + 1, 2, none⟩) hltB).trans d2; have k6 := (hb9.cell (p := ⟨w.heap.size + 1, 3, none⟩) hltB).trans d3; have k7 := (hb9.cell (p := ⟨w.heap.size + 1, 4, none⟩) hltB).trans d4; have k8 := (hb9.cell (p := ⟨w.heap.size + 2, 0, none⟩) hltC).trans s0; have k9 := (hb9.cell (p := ⟨w.heap.size + 2, 1, none⟩) hltC).trans s1)
           | (go_at_call 47; refine (HC2.out _ r8 g7 cp7 g9 cp9 ((hF7.below hb8).below hb9d) ((HAT.out _ _ hS8 _ hO8).below hb9d) hS8 hX9).mono ?_; rintro e wE ⟨rfl, hbAd⟩; have hbA : Below wD.heap.size wD wE := hb9.trans (hbAd.mono hb9.size); have k0 := (hbA.cell (p := ⟨w.heap.size, 0, none⟩) hltA).trans c0; have k1 := (hbA.cell (p := ⟨w.heap.size, 1, none⟩) hltA).trans c1; have k2 := (hbA.cell (p := ⟨w.heap.size, 2, none⟩) hltA).trans c2; have k3 := (hbA.cell (p := ⟨w.heap.size + 1, 0, none⟩) hltB).trans d0; have k4 := (hbA.cell (p := ⟨w.heap.size + 1, 1, none⟩) hltB).trans d1; have k5 := (hbA.cell (p := ⟨w.heap.size + 1, 2, none⟩) hltB).trans d2; have k6 := (hbA.cell (p := ⟨w.heap.size + 1, 3, none⟩) hltB).trans d3; have k7 := (hbA.cell (p := ⟨w.heap.size + 1, 4, none⟩) hltB).trans d4; have k8 := (hbA.cell (p := ⟨w.heap.size + 2, 0, none⟩) hltC).trans s0; have k9 := (hbA.cell (p := ⟨w.heap.size + 2, 1, none⟩) hltC).trans s1))
        have hKE := hKD.below hbA
        have hlow := hKE.fr.low
        clear c0 c1 c2 d0 d1 d2 d3 d4 s0 s1 k0 k1 k2 k3 k4 k5 k6 k7 k8 k9 hltA hltB hltC hb7 hb7d hb8 hb87 hF7 hO8 hS8 hbAd hbA hKD ho9 hX9 hb9 hb9d hI8
        go_wp2
        go_ret
        exact ⟨rfl, hlow⟩
end Go.Proofs.YtlkkociijfdcgaaGreatDoor
