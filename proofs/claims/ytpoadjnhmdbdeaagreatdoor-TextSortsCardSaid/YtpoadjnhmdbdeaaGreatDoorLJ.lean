/-
  Walk of TextSorts.
-/
import Derived.Test.YtpoadjnhmdbdeaaGreatDoorNG
namespace Go.Proofs.YtpoadjnhmdbdeaaGreatDoor
open Go.RowKit Go.Maps Go.Shelf

/-- The boxes of a fount and of rules, as a law's walk goes on. -/
structure FRK (w : World) (f : FT) (a : Option Addr) (c : Nat) (r : RU) (wr : World) : Prop where
  fb : wr.heap[w.heap.size]? = some (.cells #[.string f.name, .int .i64 f.body, .slice a f.sorts.length c] 59 (0, 0))
  rb : wr.heap[w.heap.size + 1]? = some (.cells #[.slice r.ps.a r.ps.l.length r.ps.c, .slice r.es.a r.es.l.length r.es.c, .slice r.bs.a r.bs.l.length r.bs.c, .int .i64 r.left, .int .i64 r.right] 24 (0, 0))
  low : Below w.heap.size w wr
section
variable {w : World} {f : FT} {a : Option Addr} {c : Nat} {r : RU} {wr wr' : World}
theorem FRK.below (h : FRK w f a c r wr) (hb : Below wr.heap.size wr wr') : FRK w f a c r wr' := ⟨(hb.block _ (heap_lt h.fb)).trans h.fb, (hb.block _ (heap_lt h.rb)).trans h.rb, h.low.trans (hb.mono h.low.size)⟩
theorem FRK.fc (h : FRK w f a c r wr) : wr.cell? ⟨w.heap.size, 0, none⟩ = some (.string f.name) ∧ wr.cell? ⟨w.heap.size, 1, none⟩ = some (.int .i64 f.body) ∧ wr.cell? ⟨w.heap.size, 2, none⟩ = some (.slice a f.sorts.length c) :=
  ⟨cell_of_row wr _ 0 _ _ (0, 0) h.fb, cell_of_row wr _ 1 _ _ (0, 0) h.fb, cell_of_row wr _ 2 _ _ (0, 0) h.fb⟩
theorem FRK.rc (h : FRK w f a c r wr) : wr.cell? ⟨w.heap.size + 1, 0, none⟩ = some (.slice r.ps.a r.ps.l.length r.ps.c) ∧ wr.cell? ⟨w.heap.size + 1, 1, none⟩ = some (.slice r.es.a r.es.l.length r.es.c) ∧ wr.cell? ⟨w.heap.size + 1, 2, none⟩ = some (.slice r.bs.a r.bs.l.length r.bs.c) ∧ wr.cell? ⟨w.heap.size + 1, 3, none⟩ = some (.int .i64 r.left) ∧ wr.cell? ⟨w.heap.size + 1, 4, none⟩ = some (.int .i64 r.right) :=
  ⟨cell_of_row wr _ 0 _ _ (0, 0) h.rb, cell_of_row wr _ 1 _ _ (0, 0) h.rb, cell_of_row wr _ 2 _ _ (0, 0) h.rb, cell_of_row wr _ 3 _ _ (0, 0) h.rb, cell_of_row wr _ 4 _ _ (0, 0) h.rb⟩
theorem FRK.lt (h : FRK w f a c r wr) : w.heap.size + 1 < wr.heap.size := heap_lt h.rb
end
theorem frk_start (w : World) (f : FT) (a : Option Addr) (c : Nat) (r : RU) : FRK w f a c r ((w.alloc (.cells #[.string f.name, .int .i64 f.body, .slice a f.sorts.length c] 59)).alloc (.cells #[.slice r.ps.a r.ps.l.length r.ps.c, .slice r.es.a r.es.l.length r.es.c, .slice r.bs.a r.bs.l.length r.bs.c, .int .i64 r.left, .int .i64 r.right] 24)) := by
  refine ⟨heap_keep (heap_new _ _), ?_, ((Below.refl _ _).alloc (Nat.le_refl _) _).alloc (by simp) _⟩
  have h := heap_new (w.alloc (.cells #[.string f.name, .int .i64 f.body, .slice a f.sorts.length c] 59)) (.cells #[.slice r.ps.a r.ps.l.length r.ps.c, .slice r.es.a r.es.l.length r.es.c, .slice r.bs.a r.bs.l.length r.bs.c, .int .i64 r.left, .int .i64 r.right] 24)
  rw [World.size_alloc] at h
  exact h
theorem setErrW_same {f : FT} {r r' : RU} (h : SameR r r') (s : ByteArray) : setErrW f r' s = setErrW f r s := by unfold setErrW setErr; rw [checkR_same h]
theorem barsOf_same {r r' : RU} (h : SameR r r') (s : ByteArray) : barsOf r' s = barsOf r s := by unfold barsOf; rw [h.2.2.1]
theorem wordSet_same {f : FT} {r r' : RU} (h : SameR r r') (s : ByteArray) : wordSet f r' s = wordSet f r s := by unfold wordSet wordP; rw [barsOf_same h]
theorem longSet_len {p : PC} : ∀ (k pl : Nat) (acc l : List Int), longSet p k pl acc = some l → pl ≤ p.t.size → l.length + pl ≤ acc.length + p.t.size
  | 0, _, _, _, h, _ => by cases h
  | k + 1, pl, acc, l, h, hpl => by
    unfold longSet at h
    by_cases h1 : pl < p.t.size
    · rw [if_pos h1] at h
      by_cases h2 : 0 < (longAt p pl).2
      · rw [if_pos h2] at h
        have hok := (longAt_ok p pl hpl).resolve_left (by omega)
        have ih := longSet_len k _ _ l h hok.2.2
        rw [List.length_append, List.length_singleton] at ih
        omega
      · rw [if_neg h2] at h; cases h
    · rw [if_neg h1] at h
      injection h with h
      subst h
      omega
theorem wordSet_len {f : FT} {r : RU} {s : ByteArray} {l : List Int} (h : wordSet f r s = some l) : l.length ≤ s.size := by
  have h1 := longSet_len _ _ _ _ h (Nat.zero_le _)
  have h2 : (wordP f none 0 r s 0 s.size).t.size ≤ s.size := by
    show (s.extract 0 s.size).size ≤ s.size
    rw [ext_whole]
    exact Nat.le_refl _
  have h3 : ([] : List Int).length = 0 := rfl
  omega
/-- What text.SortsOf answers. -/
def SortsAns (w : World) (E : Int) (o : Option (List Int)) (e : Ending) (w' : World) : Prop :=
  Below w.heap.size w w' ∧ if E ≠ 0 then e = .returned (.tuple #[.slice none 0 0, .int .i64 E]) else match o with
    | none => e = .returned (.tuple #[.slice none 0 0, .int .i64 6])
    | some l => ∃ A k, e = .returned (.tuple #[.slice A l.length k, .int .i64 0]) ∧ IntsAt w' A l
theorem sortsOf_ans (f : FT) (a : Option Addr) (c : Nat) (r r' : RU) (s : ByteArray) (w : World) (hF : FAt w a f) (hR : r'.at_ w) (hSm : SameR r r') (hs : s.size ≤ maxLen) :
    Calls Tryz.prog 39 #[.agg #[.string f.name, .int .i64 f.body, .slice a f.sorts.length c], .agg r'.cells, .string s] w (SortsAns w (setErrW f r s) (wordSet f r s)) := by
  refine (sortsOf_fn f a c r' s w hF hR hs).mono ?_
  rintro e w' ⟨hb, hp⟩
  refine ⟨hb, ?_⟩
  have hE := setErrW_same (f := f) hSm s
  have hW := wordSet_same (f := f) hSm s
  have hX : sortsErr longWay f r' s = if setErrW f r s ≠ 0 then setErrW f r s else if (wordSet f r s).isNone = true then 6 else 0 := by
    unfold sortsErr
    rw [hE, ← hW]
    rfl
  obtain ⟨X, hXe⟩ : ∃ X, X = sortsErr longWay f r' s := ⟨_, rfl⟩
  rw [← hXe] at hp hX
  clear hXe
  by_cases h0 : setErrW f r s = 0
  · rw [if_neg (fun h => h h0)]
    rw [if_neg (fun h => h h0)] at hX
    cases ho : wordSet f r s with
    | none =>
      rw [ho] at hX
      have hX6 : X = 6 := hX
      rw [hX6, if_neg (by decide)] at hp
      exact hp
    | some l =>
      rw [ho] at hX
      have hX0 : X = 0 := hX
      rw [hX0, if_pos rfl] at hp
      obtain ⟨v, l2, hl2, rfl, hrow⟩ := hp
      have e2 : some l2 = some l := by rw [← hl2, ← ho, ← hW]; rfl
      injection e2 with e2
      subst e2
      obtain ⟨A, k, rfl, hI, -, -⟩ := hrow.shape
      exact ⟨A, k, rfl, hI⟩
  · rw [if_pos h0]
    rw [if_pos h0] at hX
    rw [hX, if_neg h0] at hp
    exact hp

/-- What ref.FirstMissing answers. -/
def missI (o : Option Nat) : Int := match o with
  | some i => (i : Int)
  | none => -1
set_option maxRecDepth 100000 in
set_option maxHeartbeats 8000000 in
theorem sorts_walk (f : FT) (a : Option Addr) (c : Nat) (r : RU) (s : ByteArray) (w : World) (hF : FIn w f a c) (hR : r.at_ w) (hT : TabOk w) (hc : capR r) (hs : s.size ≤ maxLen) :
    Calls Tryz.prog 6 #[.agg #[.string f.name, .int .i64 f.body, .slice a f.sorts.length c], .agg r.cells, .string s] w fun e w' => e = .returned (.bool true) ∧ Below w.heap.size w w' := by
  have hK0 := frk_start w f a c r
  have HF := Lib.hid (fun W (h : FRK w f a c r W) => hF.below h.low)
  have HR := Lib.hid (fun W (h : FRK w f a c r W) => hR.below h.low)
  have HT := Lib.hid (fun W (h : FRK w f a c r W) => hT.below h.low hT.1)
  have hz : SizesOk r.ps.l ∧ SizesOk r.es.l ∧ SizesOk r.bs.l := ⟨hR.1.2.2, hR.2.1.2.2, hR.2.2.2.2⟩
  have HSR := Lib.hid (fun W (h : r.at_ W) => Short_any r W h)
  have HCP0 := Lib.hid (fun W (h : r.at_ W) h1 h2 h3 => copyRules_any r W h hc h1 h2 h3)
  have hcap := hF.nil
  unfold RU.cells at *
  clear hF hR hT hc
  go_enter Tryz.func6, Tryz.ntmps6
  go_wp2_with fail
  refine (awake_any _ (HT.out _ hK0)).mono ?_
  rintro e w2 ⟨rfl, hb2⟩
  have hK2 := hK0.below hb2
  clear hK0 hb2
  obtain ⟨c0, c1, c2⟩ := hK2.fc
  go_wp2_with fail
  refine (few2_any f a c _ (HF.out _ hK2).at_.ok (HF.out _ hK2).at_.at_).mono ?_
  rintro e w3 ⟨rfl, hb3⟩
  have hK3 := hK2.below hb3
  clear hK2 hb3 c0 c1 c2
  cases hfew : few2B f
  · have hlow := hK3.low
    go_wp2
    go_ret
    exact ⟨rfl, hlow⟩
  obtain ⟨d0, d1, d2, d3, d4⟩ := hK3.rc
  go_wp2_with fail
  refine (HSR.out _ (HR.out _ hK3)).mono ?_
  rintro e w4 ⟨rfl, hb4⟩
  have hK4 := hK3.below hb4
  clear hK3 hb4 d0 d1 d2 d3 d4
  cases hsh : shortR r
  · have hlow := hK4.low
    go_wp2
    go_ret
    exact ⟨rfl, hlow⟩
  by_cases h40 : 40 < s.size
  · have hlow := hK4.low
    have g1 : decide ((40 : Int) < (s.size : Int)) = true := decide_eq_true (by omega)
    have i1 : (40 : Int) < (s.size : Int) := by omega
    go_wp2
    go_ret
    exact ⟨rfl, hlow⟩
  have g1 : decide ((40 : Int) < (s.size : Int)) = false := decide_eq_false (by omega)
  have i1 : ¬ (40 : Int) < (s.size : Int) := by omega
  obtain ⟨hSm, hl1, hl2, hl3⟩ := small_short hsh
  have hn122 := few2_len hfew
  have hl : r.ps.l.length ≤ 1000 ∧ r.es.l.length ≤ 1000 ∧ r.bs.l.length ≤ 1000 := ⟨by omega, by omega, by omega⟩
  have HCP := Lib.hid (fun W (h : r.at_ W) => HCP0.out W h hl.1 hl.2.1 hl.2.2)
  have HCF := Lib.hid (fun W (h : FRK w f a c r W) => copyFount_any f a c W (HF.out W h).at_ (by omega) hcap)
  have HWE := Lib.hid (fun W (h : FRK w f a c r W) => wordErrF_any f a c r s W (HF.out W h) (HR.out W h) hSm hs)
  have HRS := Lib.hid (fun W (h : FRK w f a c r W) hf he => refSortsOf_any f a c r s W (HF.out W h).at_.at_ (HR.out W h) hSm hf he (by omega))
  have HRM := Lib.hid (fun W (h : FRK w f a c r W) hf => refFirstMissing_any f a c s W (HF.out W h) hf (by omega))
  have HIW := Lib.hid (fun W => refIsWord_any s W hs)
  have HFE := Lib.hid (fun W (h : FRK w f a c r W) => refFountErr_any f a c W (HF.out W h))
  have HAT := Lib.hid (fun W (r2 : RU) (h1 : SameR r r2) B (h2 : OwnR W B r2) => own_at h1 h2 hz hl)
  clear hsh hfew HSR HCP0 hz HT
  unfold RU.cells at HCP HWE HRS
  obtain ⟨c0, c1, c2⟩ := hK4.fc
  go_wp2_with fail
  refine (HCF.out _ hK4).mono ?_
  rintro e w5 ⟨g5, k5, rfl, hk5, hF5, hb5⟩
  have hK5 := hK4.below hb5
  have HFM := Lib.hid (firstMissing_any f (some ⟨g5, 0, none⟩) k5 s w5 ⟨hF5, hk5, fun h => (by cases h)⟩ (by omega))
  clear hK4 hb5 c0 c1 c2 hF5 hk5 g1 i1
  go_wp2_with fail
  refine HFM.out.mono ?_
  rintro e w6 ⟨rfl, hb6⟩
  have hK6 := hK5.below hb6
  clear hK5 hb6 HFM
  obtain ⟨c0, c1, c2⟩ := hK6.fc
  obtain ⟨d0, d1, d2, d3, d4⟩ := hK6.rc
  have hlt6 := hK6.lt
  have hlt6a : w.heap.size < w6.heap.size := by omega
  obtain ⟨E, hE⟩ : ∃ E, E = setErrW f r s := ⟨_, rfl⟩
  obtain ⟨o, ho⟩ : ∃ o, o = wordSet f r s := ⟨_, rfl⟩
  have HOL := Lib.hid (fun l (h : o = some l) => show l.length ≤ 40 by have := wordSet_len (ho.symm.trans h); omega)
  have HSO := Lib.hid (fun W (r2 : RU) (g k : Nat) (h1 : FAt W (some ⟨g, 0, none⟩) f) (h2 : r2.at_ W) (h3 : SameR r r2) => sortsOf_ans f (some ⟨g, 0, none⟩) k r r2 s W h1 h2 h3 hs)
  rw [← hE, ← ho] at HSO
  rw [← ho] at HRS
  rw [← hE] at HWE
  have HEK := Lib.hid (fun (h : E = 0) => setErrW_ok (f := f) (r := r) (s := s) (by rw [← hE]; exact h))
  unfold RU.cells at HSO
  clear hE ho
  obtain ⟨FE, hFE⟩ : ∃ FE, FE = (checkF f).2 := ⟨_, rfl⟩
  have HFE0 := Lib.hid (fun (h : FE = 0) => show (checkF f).2 = 0 by rw [← hFE]; exact h)
  have HFR := Lib.hid (show fmR f s = if (if FE ≠ 0 then FE else wordErr s) ≠ 0 then (0, if FE ≠ 0 then FE else wordErr s) else match missAt f s with | some i => ((i : Int), 0) | none => (0, 12) by rw [hFE]; rfl)
  obtain ⟨R, hRe⟩ : ∃ R, R = fmR f s := ⟨_, rfl⟩
  rw [← hRe] at HFR ⊢
  rw [← hFE] at HFE
  have hWI : wordErr s = if isWordB s = true then 0 else 3 := rfl
  have HWI := Lib.hid hWI
  clear hFE hRe hWI
  by_cases hE0 : E = 0
  · subst hE0
    cases o with
    | none =>
      go_wp2_with fail
      go_region_held3 (fun w' => w'.cell? ⟨w.heap.size, 0, none⟩ = some (.string f.name) ∧ w'.cell? ⟨w.heap.size, 1, none⟩ = some (.int .i64 f.body) ∧ w'.cell? ⟨w.heap.size, 2, none⟩ = some (.slice a f.sorts.length c) ∧ w'.cell? ⟨w.heap.size + 1, 0, none⟩ = some (.slice r.ps.a r.ps.l.length r.ps.c) ∧ w'.cell? ⟨w.heap.size + 1, 1, none⟩ = some (.slice r.es.a r.es.l.length r.es.c) ∧ w'.cell? ⟨w.heap.size + 1, 2, none⟩ = some (.slice r.bs.a r.bs.l.length r.bs.c) ∧ w'.cell? ⟨w.heap.size + 1, 3, none⟩ = some (.int .i64 r.left) ∧ w'.cell? ⟨w.heap.size + 1, 4, none⟩ = some (.int .i64 r.right)) (go_keep)
        (first
         | (go_at_call 38; refine (HCF.out _ (by first | exact hK6 | exact ⟨hK6.fb, hK6.rb, hK6.low.drew⟩)).mono ?_; rintro e w7 ⟨g7, cp7, rfl, hk7, hF7, hb7d⟩; have hb7 : Below w6.heap.size w6 w7 := (Below.refl _ _).drew.trans hb7d; have k0 := (hb7.cell (p := ⟨w.heap.size, 0, none⟩) hlt6a).trans c0; have k1 := (hb7.cell (p := ⟨w.heap.size, 1, none⟩) hlt6a).trans c1; have k2 := (hb7.cell (p := ⟨w.heap.size, 2, none⟩) hlt6a).trans c2; have k3 := (hb7.cell (p := ⟨w.heap.size + 1, 0, none⟩) hlt6).trans d0; have k4 := (hb7.cell (p := ⟨w.heap.size + 1, 1, none⟩) hlt6).trans d1; have k5 := (hb7.cell (p := ⟨w.heap.size + 1, 2, none⟩) hlt6).trans d2; have k6 := (hb7.cell (p := ⟨w.heap.size + 1, 3, none⟩) hlt6).trans d3; have k7 := (hb7.cell (p := ⟨w.heap.size + 1, 4, none⟩) hlt6).trans d4)
         | (go_at_call 20; refine (HCP.out _ (HR.out _ (hK6.below hb7))).mono ?_; rintro e w8 ⟨r8, rfl, hS8, hO8, hb8⟩; have hb87 : Below w6.heap.size w6 w8 := hb7.trans (hb8.mono hb7.size); have k0 := (hb87.cell (p := ⟨w.heap.size, 0, none⟩) hlt6a).trans c0; have k1 := (hb87.cell (p := ⟨w.heap.size, 1, none⟩) hlt6a).trans c1; have k2 := (hb87.cell (p := ⟨w.heap.size, 2, none⟩) hlt6a).trans c2; have k3 := (hb87.cell (p := ⟨w.heap.size + 1, 0, none⟩) hlt6).trans d0; have k4 := (hb87.cell (p := ⟨w.heap.size + 1, 1, none⟩) hlt6).trans d1; have k5 := (hb87.cell (p := ⟨w.heap.size + 1, 2, none⟩) hlt6).trans d2; have k6 := (hb87.cell (p := ⟨w.heap.size + 1, 3, none⟩) hlt6).trans d3; have k7 := (hb87.cell (p := ⟨w.heap.size + 1, 4, none⟩) hlt6).trans d4)
         | (go_at_call 39; refine (HSO.out _ r8 g7 cp7 (hF7.below hb8) (HAT.out _ _ hS8 _ hO8) hS8).mono ?_; intro e w9 hp9; obtain ⟨hb9d, hq9⟩ := hp9; rw [if_neg (fun h => h rfl)] at hq9; dsimp only at hq9; subst hq9; have hb9 : Below w6.heap.size w6 w9 := hb87.trans (hb9d.mono hb87.size); have k0 := (hb9.cell (p := ⟨w.heap.size, 0, none⟩) hlt6a).trans c0; have k1 := (hb9.cell (p := ⟨w.heap.size, 1, none⟩) hlt6a).trans c1; have k2 := (hb9.cell (p := ⟨w.heap.size, 2, none⟩) hlt6a).trans c2; have k3 := (hb9.cell (p := ⟨w.heap.size + 1, 0, none⟩) hlt6).trans d0; have k4 := (hb9.cell (p := ⟨w.heap.size + 1, 1, none⟩) hlt6).trans d1; have k5 := (hb9.cell (p := ⟨w.heap.size + 1, 2, none⟩) hlt6).trans d2; have k6 := (hb9.cell (p := ⟨w.heap.size + 1, 3, none⟩) hlt6).trans d3; have k7 := (hb9.cell (p := ⟨w.heap.size + 1, 4, none⟩) hlt6).trans d4))
      have hK9 := hK6.below hb9
      clear c0 c1 c2 d0 d1 d2 d3 d4 k0 k1 k2 k3 k4 k5 k6 k7
      obtain ⟨c0, c1, c2⟩ := hK9.fc
      go_wp2_with fail
      refine (HFE.out _ hK9).mono ?_
      rintro e w10 ⟨rfl, hb10⟩
      have hK10 := hK9.below hb10
      clear c0 c1 c2
      by_cases hf0 : FE = 0
      · have hfb : (FE == 0) = true := by rw [hf0]; rfl
        go_wp2_with fail
        refine (HIW.out _).mono ?_
        rintro e w11 ⟨rfl, rfl⟩
        cases hw : isWordB s
        · have HV := Lib.hid (show R = (0, 3) by rw [HFR.out, HWI.out, hw, hf0]; rfl)
          rw [HV.out]
          clear hw
          obtain ⟨c0, c1, c2⟩ := hK10.fc
          obtain ⟨d0, d1, d2, d3, d4⟩ := hK10.rc
          go_wp2_with fail
          refine (HWE.out _ hK10).mono ?_
          rintro e w20 ⟨rfl, hb20⟩
          have hK20 := hK10.below hb20
          clear c0 c1 c2 d0 d1 d2 d3 d4
          obtain ⟨c0, c1, c2⟩ := hK20.fc
          obtain ⟨d0, d1, d2, d3, d4⟩ := hK20.rc
          go_wp2_with fail
          refine (HRS.out _ hK20 (HEK.out (by simp)).1 (HEK.out (by simp)).2.1).mono ?_
          rintro e w21 ⟨hb21, rfl⟩
          have hlow := (hK20.below hb21).low
          clear hb21 c0 c1 c2 d0 d1 d2 d3 d4
          have HIN := ints_any none [] 0 none [] 0 w21 (fun q hq => absurd hq (Nat.not_lt_zero _)) (fun q hq => absurd hq (Nat.not_lt_zero _)) (by decide) (by decide)
          rw [decide_eq_true rfl] at HIN
          go_wp2_with fail
          refine HIN.mono ?_
          rintro e w22 ⟨rfl, hD22⟩
          have hlow2 := hlow.trans ((hD22.below (Below.refl _ _)).mono hlow.size)
          clear HIN hD22
          go_wp2
          go_ret
          exact ⟨rfl, hlow2⟩
        · obtain ⟨d0, d1, d2⟩ := hK10.fc
          have HRX := HRM.out _ hK10 (HFE0.out hf0)
          cases hm : missAt f s with
          | none =>
            rw [hm] at HRX
            have HV := Lib.hid (show R = (0, 12) by rw [HFR.out, HWI.out, hw, hf0, hm]; rfl)
            rw [HV.out]
            clear hm hw
            dsimp only at HRX
            go_wp2_with fail
            refine HRX.mono ?_
            rintro e w12 ⟨rfl, hb12⟩
            have hK12 := hK10.below hb12
            clear d0 d1 d2 HRX
            obtain ⟨c0, c1, c2⟩ := hK12.fc
            obtain ⟨d0, d1, d2, d3, d4⟩ := hK12.rc
            go_wp2_with fail
            refine (HWE.out _ hK12).mono ?_
            rintro e w20 ⟨rfl, hb20⟩
            have hK20 := hK12.below hb20
            clear c0 c1 c2 d0 d1 d2 d3 d4
            obtain ⟨c0, c1, c2⟩ := hK20.fc
            obtain ⟨d0, d1, d2, d3, d4⟩ := hK20.rc
            go_wp2_with fail
            refine (HRS.out _ hK20 (HEK.out (by simp)).1 (HEK.out (by simp)).2.1).mono ?_
            rintro e w21 ⟨hb21, rfl⟩
            have hlow := (hK20.below hb21).low
            clear hb21 c0 c1 c2 d0 d1 d2 d3 d4
            have HIN := ints_any none [] 0 none [] 0 w21 (fun q hq => absurd hq (Nat.not_lt_zero _)) (fun q hq => absurd hq (Nat.not_lt_zero _)) (by decide) (by decide)
            rw [decide_eq_true rfl] at HIN
            go_wp2_with fail
            refine HIN.mono ?_
            rintro e w22 ⟨rfl, hD22⟩
            have hlow2 := hlow.trans ((hD22.below (Below.refl _ _)).mono hlow.size)
            clear HIN hD22
            go_wp2
            go_ret
            exact ⟨rfl, hlow2⟩
          | some i =>
            rw [hm] at HRX
            have HV := Lib.hid (show R = ((i : Int), 0) by rw [HFR.out, HWI.out, hw, hf0, hm]; rfl)
            rw [HV.out]
            clear hm hw
            dsimp only at HRX
            go_wp2_with fail
            refine HRX.mono ?_
            rintro e w12 ⟨rfl, hb12⟩
            have hK12 := hK10.below hb12
            clear d0 d1 d2 HRX
            have hi0 : ¬ (i : Int) < 0 := by omega
            have hi1 : decide ((i : Int) < 0) = false := decide_eq_false hi0
            have hi2 : max (0 : Int) (i : Int) = (i : Int) := by omega
            have hi3 : (0 : Int) ≤ (i : Int) := by omega
            obtain ⟨c0, c1, c2⟩ := hK12.fc
            obtain ⟨d0, d1, d2, d3, d4⟩ := hK12.rc
            go_wp2_with fail
            refine (HWE.out _ hK12).mono ?_
            rintro e w20 ⟨rfl, hb20⟩
            have hK20 := hK12.below hb20
            clear c0 c1 c2 d0 d1 d2 d3 d4
            obtain ⟨c0, c1, c2⟩ := hK20.fc
            obtain ⟨d0, d1, d2, d3, d4⟩ := hK20.rc
            go_wp2_with fail
            refine (HRS.out _ hK20 (HEK.out (by simp)).1 (HEK.out (by simp)).2.1).mono ?_
            rintro e w21 ⟨hb21, rfl⟩
            have hlow := (hK20.below hb21).low
            clear hb21 c0 c1 c2 d0 d1 d2 d3 d4
            have HIN := ints_any none [] 0 none [] 0 w21 (fun q hq => absurd hq (Nat.not_lt_zero _)) (fun q hq => absurd hq (Nat.not_lt_zero _)) (by decide) (by decide)
            rw [decide_eq_true rfl] at HIN
            go_wp2_with fail
            refine HIN.mono ?_
            rintro e w22 ⟨rfl, hD22⟩
            have hlow2 := hlow.trans ((hD22.below (Below.refl _ _)).mono hlow.size)
            clear HIN hD22
            go_wp2
            go_ret
            exact ⟨rfl, hlow2⟩
      · have hfb : (FE == 0) = false := by simpa using hf0
        have HV := Lib.hid (show R = (0, FE) by rw [HFR.out, if_pos hf0, if_pos hf0])
        rw [HV.out]
        obtain ⟨c0, c1, c2⟩ := hK10.fc
        obtain ⟨d0, d1, d2, d3, d4⟩ := hK10.rc
        go_wp2_with fail
        refine (HWE.out _ hK10).mono ?_
        rintro e w20 ⟨rfl, hb20⟩
        have hK20 := hK10.below hb20
        clear c0 c1 c2 d0 d1 d2 d3 d4
        obtain ⟨c0, c1, c2⟩ := hK20.fc
        obtain ⟨d0, d1, d2, d3, d4⟩ := hK20.rc
        go_wp2_with fail
        refine (HRS.out _ hK20 (HEK.out (by simp)).1 (HEK.out (by simp)).2.1).mono ?_
        rintro e w21 ⟨hb21, rfl⟩
        have hlow := (hK20.below hb21).low
        clear hb21 c0 c1 c2 d0 d1 d2 d3 d4
        have HIN := ints_any none [] 0 none [] 0 w21 (fun q hq => absurd hq (Nat.not_lt_zero _)) (fun q hq => absurd hq (Nat.not_lt_zero _)) (by decide) (by decide)
        rw [decide_eq_true rfl] at HIN
        go_wp2_with fail
        refine HIN.mono ?_
        rintro e w22 ⟨rfl, hD22⟩
        have hlow2 := hlow.trans ((hD22.below (Below.refl _ _)).mono hlow.size)
        clear HIN hD22
        go_wp2
        go_ret
        exact ⟨rfl, hlow2⟩
    | some l =>
      go_wp2_with fail
      go_region_held3 (fun w' => w'.cell? ⟨w.heap.size, 0, none⟩ = some (.string f.name) ∧ w'.cell? ⟨w.heap.size, 1, none⟩ = some (.int .i64 f.body) ∧ w'.cell? ⟨w.heap.size, 2, none⟩ = some (.slice a f.sorts.length c) ∧ w'.cell? ⟨w.heap.size + 1, 0, none⟩ = some (.slice r.ps.a r.ps.l.length r.ps.c) ∧ w'.cell? ⟨w.heap.size + 1, 1, none⟩ = some (.slice r.es.a r.es.l.length r.es.c) ∧ w'.cell? ⟨w.heap.size + 1, 2, none⟩ = some (.slice r.bs.a r.bs.l.length r.bs.c) ∧ w'.cell? ⟨w.heap.size + 1, 3, none⟩ = some (.int .i64 r.left) ∧ w'.cell? ⟨w.heap.size + 1, 4, none⟩ = some (.int .i64 r.right)) (go_keep)
        (first
         | (go_at_call 38; refine (HCF.out _ (by first | exact hK6 | exact ⟨hK6.fb, hK6.rb, hK6.low.drew⟩)).mono ?_; rintro e w7 ⟨g7, cp7, rfl, hk7, hF7, hb7d⟩; have hb7 : Below w6.heap.size w6 w7 := (Below.refl _ _).drew.trans hb7d; have k0 := (hb7.cell (p := ⟨w.heap.size, 0, none⟩) hlt6a).trans c0; have k1 := (hb7.cell (p := ⟨w.heap.size, 1, none⟩) hlt6a).trans c1; have k2 := (hb7.cell (p := ⟨w.heap.size, 2, none⟩) hlt6a).trans c2; have k3 := (hb7.cell (p := ⟨w.heap.size + 1, 0, none⟩) hlt6).trans d0; have k4 := (hb7.cell (p := ⟨w.heap.size + 1, 1, none⟩) hlt6).trans d1; have k5 := (hb7.cell (p := ⟨w.heap.size + 1, 2, none⟩) hlt6).trans d2; have k6 := (hb7.cell (p := ⟨w.heap.size + 1, 3, none⟩) hlt6).trans d3; have k7 := (hb7.cell (p := ⟨w.heap.size + 1, 4, none⟩) hlt6).trans d4)
         | (go_at_call 20; refine (HCP.out _ (HR.out _ (hK6.below hb7))).mono ?_; rintro e w8 ⟨r8, rfl, hS8, hO8, hb8⟩; have hb87 : Below w6.heap.size w6 w8 := hb7.trans (hb8.mono hb7.size); have k0 := (hb87.cell (p := ⟨w.heap.size, 0, none⟩) hlt6a).trans c0; have k1 := (hb87.cell (p := ⟨w.heap.size, 1, none⟩) hlt6a).trans c1; have k2 := (hb87.cell (p := ⟨w.heap.size, 2, none⟩) hlt6a).trans c2; have k3 := (hb87.cell (p := ⟨w.heap.size + 1, 0, none⟩) hlt6).trans d0; have k4 := (hb87.cell (p := ⟨w.heap.size + 1, 1, none⟩) hlt6).trans d1; have k5 := (hb87.cell (p := ⟨w.heap.size + 1, 2, none⟩) hlt6).trans d2; have k6 := (hb87.cell (p := ⟨w.heap.size + 1, 3, none⟩) hlt6).trans d3; have k7 := (hb87.cell (p := ⟨w.heap.size + 1, 4, none⟩) hlt6).trans d4)
         | (go_at_call 39; refine (HSO.out _ r8 g7 cp7 (hF7.below hb8) (HAT.out _ _ hS8 _ hO8) hS8).mono ?_; intro e w9 hp9; obtain ⟨hb9d, hq9⟩ := hp9; rw [if_neg (fun h => h rfl)] at hq9; dsimp only at hq9; obtain ⟨A9, cp9, rfl, hI9⟩ := hq9; have hb9 : Below w6.heap.size w6 w9 := hb87.trans (hb9d.mono hb87.size); have k0 := (hb9.cell (p := ⟨w.heap.size, 0, none⟩) hlt6a).trans c0; have k1 := (hb9.cell (p := ⟨w.heap.size, 1, none⟩) hlt6a).trans c1; have k2 := (hb9.cell (p := ⟨w.heap.size, 2, none⟩) hlt6a).trans c2; have k3 := (hb9.cell (p := ⟨w.heap.size + 1, 0, none⟩) hlt6).trans d0; have k4 := (hb9.cell (p := ⟨w.heap.size + 1, 1, none⟩) hlt6).trans d1; have k5 := (hb9.cell (p := ⟨w.heap.size + 1, 2, none⟩) hlt6).trans d2; have k6 := (hb9.cell (p := ⟨w.heap.size + 1, 3, none⟩) hlt6).trans d3; have k7 := (hb9.cell (p := ⟨w.heap.size + 1, 4, none⟩) hlt6).trans d4))
      have hK9 := hK6.below hb9
      clear c0 c1 c2 d0 d1 d2 d3 d4 k0 k1 k2 k3 k4 k5 k6 k7
      obtain ⟨c0, c1, c2⟩ := hK9.fc
      go_wp2_with fail
      refine (HFE.out _ hK9).mono ?_
      rintro e w10 ⟨rfl, hb10⟩
      have hK10 := hK9.below hb10
      clear c0 c1 c2
      by_cases hf0 : FE = 0
      · have hfb : (FE == 0) = true := by rw [hf0]; rfl
        go_wp2_with fail
        refine (HIW.out _).mono ?_
        rintro e w11 ⟨rfl, rfl⟩
        cases hw : isWordB s
        · have HV := Lib.hid (show R = (0, 3) by rw [HFR.out, HWI.out, hw, hf0]; rfl)
          rw [HV.out]
          clear hw
          obtain ⟨c0, c1, c2⟩ := hK10.fc
          obtain ⟨d0, d1, d2, d3, d4⟩ := hK10.rc
          go_wp2_with fail
          refine (HWE.out _ hK10).mono ?_
          rintro e w20 ⟨rfl, hb20⟩
          have hK20 := hK10.below hb20
          clear c0 c1 c2 d0 d1 d2 d3 d4
          obtain ⟨c0, c1, c2⟩ := hK20.fc
          obtain ⟨d0, d1, d2, d3, d4⟩ := hK20.rc
          go_wp2_with fail
          refine (HRS.out _ hK20 (HEK.out (by simp)).1 (HEK.out (by simp)).2.1).mono ?_
          rintro e w21 ⟨hb21, v21, rfl, hrow21⟩
          obtain ⟨A21, k21, rfl, hI21, -, -⟩ := hrow21.shape
          have hlow := (hK20.below hb21).low
          have hJ21 : IntsAt w21 A9 l := (((hI9.below hb10).below hb20).below hb21)
          have hln := HOL.out l (by simp)
          clear hb21 c0 c1 c2 d0 d1 d2 d3 d4
          have HIN := ints_any A9 l cp9 A21 l k21 w21 hJ21 hI21 (by unfold maxLen; omega) (by unfold maxLen; omega)
          rw [decide_eq_true rfl] at HIN
          go_wp2_with fail
          refine HIN.mono ?_
          rintro e w22 ⟨rfl, hD22⟩
          have hlow2 := hlow.trans ((hD22.below (Below.refl _ _)).mono hlow.size)
          clear HIN hD22
          go_wp2
          go_ret
          exact ⟨rfl, hlow2⟩
        · obtain ⟨d0, d1, d2⟩ := hK10.fc
          have HRX := HRM.out _ hK10 (HFE0.out hf0)
          cases hm : missAt f s with
          | none =>
            rw [hm] at HRX
            have HV := Lib.hid (show R = (0, 12) by rw [HFR.out, HWI.out, hw, hf0, hm]; rfl)
            rw [HV.out]
            clear hm hw
            dsimp only at HRX
            go_wp2_with fail
            refine HRX.mono ?_
            rintro e w12 ⟨rfl, hb12⟩
            have hK12 := hK10.below hb12
            clear d0 d1 d2 HRX
            obtain ⟨c0, c1, c2⟩ := hK12.fc
            obtain ⟨d0, d1, d2, d3, d4⟩ := hK12.rc
            go_wp2_with fail
            refine (HWE.out _ hK12).mono ?_
            rintro e w20 ⟨rfl, hb20⟩
            have hK20 := hK12.below hb20
            clear c0 c1 c2 d0 d1 d2 d3 d4
            obtain ⟨c0, c1, c2⟩ := hK20.fc
            obtain ⟨d0, d1, d2, d3, d4⟩ := hK20.rc
            go_wp2_with fail
            refine (HRS.out _ hK20 (HEK.out (by simp)).1 (HEK.out (by simp)).2.1).mono ?_
            rintro e w21 ⟨hb21, v21, rfl, hrow21⟩
            obtain ⟨A21, k21, rfl, hI21, -, -⟩ := hrow21.shape
            have hlow := (hK20.below hb21).low
            have hJ21 : IntsAt w21 A9 l := ((((hI9.below hb10).below hb12).below hb20).below hb21)
            have hln := HOL.out l (by simp)
            clear hb21 c0 c1 c2 d0 d1 d2 d3 d4
            have HIN := ints_any A9 l cp9 A21 l k21 w21 hJ21 hI21 (by unfold maxLen; omega) (by unfold maxLen; omega)
            rw [decide_eq_true rfl] at HIN
            go_wp2_with fail
            refine HIN.mono ?_
            rintro e w22 ⟨rfl, hD22⟩
            have hlow2 := hlow.trans ((hD22.below (Below.refl _ _)).mono hlow.size)
            clear HIN hD22
            go_wp2
            go_ret
            exact ⟨rfl, hlow2⟩
          | some i =>
            rw [hm] at HRX
            have HV := Lib.hid (show R = ((i : Int), 0) by rw [HFR.out, HWI.out, hw, hf0, hm]; rfl)
            rw [HV.out]
            clear hm hw
            dsimp only at HRX
            go_wp2_with fail
            refine HRX.mono ?_
            rintro e w12 ⟨rfl, hb12⟩
            have hK12 := hK10.below hb12
            clear d0 d1 d2 HRX
            have hi0 : ¬ (i : Int) < 0 := by omega
            have hi1 : decide ((i : Int) < 0) = false := decide_eq_false hi0
            have hi2 : max (0 : Int) (i : Int) = (i : Int) := by omega
            have hi3 : (0 : Int) ≤ (i : Int) := by omega
            obtain ⟨c0, c1, c2⟩ := hK12.fc
            obtain ⟨d0, d1, d2, d3, d4⟩ := hK12.rc
            go_wp2_with fail
            refine (HWE.out _ hK12).mono ?_
            rintro e w20 ⟨rfl, hb20⟩
            have hK20 := hK12.below hb20
            clear c0 c1 c2 d0 d1 d2 d3 d4
            obtain ⟨c0, c1, c2⟩ := hK20.fc
            obtain ⟨d0, d1, d2, d3, d4⟩ := hK20.rc
            go_wp2_with fail
            refine (HRS.out _ hK20 (HEK.out (by simp)).1 (HEK.out (by simp)).2.1).mono ?_
            rintro e w21 ⟨hb21, v21, rfl, hrow21⟩
            obtain ⟨A21, k21, rfl, hI21, -, -⟩ := hrow21.shape
            have hlow := (hK20.below hb21).low
            have hJ21 : IntsAt w21 A9 l := ((((hI9.below hb10).below hb12).below hb20).below hb21)
            have hln := HOL.out l (by simp)
            clear hb21 c0 c1 c2 d0 d1 d2 d3 d4
            have HIN := ints_any A9 l cp9 A21 l k21 w21 hJ21 hI21 (by unfold maxLen; omega) (by unfold maxLen; omega)
            rw [decide_eq_true rfl] at HIN
            go_wp2_with fail
            refine HIN.mono ?_
            rintro e w22 ⟨rfl, hD22⟩
            have hlow2 := hlow.trans ((hD22.below (Below.refl _ _)).mono hlow.size)
            clear HIN hD22
            go_wp2
            go_ret
            exact ⟨rfl, hlow2⟩
      · have hfb : (FE == 0) = false := by simpa using hf0
        have HV := Lib.hid (show R = (0, FE) by rw [HFR.out, if_pos hf0, if_pos hf0])
        rw [HV.out]
        obtain ⟨c0, c1, c2⟩ := hK10.fc
        obtain ⟨d0, d1, d2, d3, d4⟩ := hK10.rc
        go_wp2_with fail
        refine (HWE.out _ hK10).mono ?_
        rintro e w20 ⟨rfl, hb20⟩
        have hK20 := hK10.below hb20
        clear c0 c1 c2 d0 d1 d2 d3 d4
        obtain ⟨c0, c1, c2⟩ := hK20.fc
        obtain ⟨d0, d1, d2, d3, d4⟩ := hK20.rc
        go_wp2_with fail
        refine (HRS.out _ hK20 (HEK.out (by simp)).1 (HEK.out (by simp)).2.1).mono ?_
        rintro e w21 ⟨hb21, v21, rfl, hrow21⟩
        obtain ⟨A21, k21, rfl, hI21, -, -⟩ := hrow21.shape
        have hlow := (hK20.below hb21).low
        have hJ21 : IntsAt w21 A9 l := (((hI9.below hb10).below hb20).below hb21)
        have hln := HOL.out l (by simp)
        clear hb21 c0 c1 c2 d0 d1 d2 d3 d4
        have HIN := ints_any A9 l cp9 A21 l k21 w21 hJ21 hI21 (by unfold maxLen; omega) (by unfold maxLen; omega)
        rw [decide_eq_true rfl] at HIN
        go_wp2_with fail
        refine HIN.mono ?_
        rintro e w22 ⟨rfl, hD22⟩
        have hlow2 := hlow.trans ((hD22.below (Below.refl _ _)).mono hlow.size)
        clear HIN hD22
        go_wp2
        go_ret
        exact ⟨rfl, hlow2⟩
  · have hE1 : (E != 0) = true := by simpa using hE0
    have hE2 : (E == 0) = false := by simpa using hE0
    go_wp2_with fail
    go_region_held3 (fun w' => w'.cell? ⟨w.heap.size, 0, none⟩ = some (.string f.name) ∧ w'.cell? ⟨w.heap.size, 1, none⟩ = some (.int .i64 f.body) ∧ w'.cell? ⟨w.heap.size, 2, none⟩ = some (.slice a f.sorts.length c) ∧ w'.cell? ⟨w.heap.size + 1, 0, none⟩ = some (.slice r.ps.a r.ps.l.length r.ps.c) ∧ w'.cell? ⟨w.heap.size + 1, 1, none⟩ = some (.slice r.es.a r.es.l.length r.es.c) ∧ w'.cell? ⟨w.heap.size + 1, 2, none⟩ = some (.slice r.bs.a r.bs.l.length r.bs.c) ∧ w'.cell? ⟨w.heap.size + 1, 3, none⟩ = some (.int .i64 r.left) ∧ w'.cell? ⟨w.heap.size + 1, 4, none⟩ = some (.int .i64 r.right)) (go_keep)
      (first
       | (go_at_call 38; refine (HCF.out _ (by first | exact hK6 | exact ⟨hK6.fb, hK6.rb, hK6.low.drew⟩)).mono ?_; rintro e w7 ⟨g7, cp7, rfl, hk7, hF7, hb7d⟩; have hb7 : Below w6.heap.size w6 w7 := (Below.refl _ _).drew.trans hb7d; have k0 := (hb7.cell (p := ⟨w.heap.size, 0, none⟩) hlt6a).trans c0; have k1 := (hb7.cell (p := ⟨w.heap.size, 1, none⟩) hlt6a).trans c1; have k2 := (hb7.cell (p := ⟨w.heap.size, 2, none⟩) hlt6a).trans c2; have k3 := (hb7.cell (p := ⟨w.heap.size + 1, 0, none⟩) hlt6).trans d0; have k4 := (hb7.cell (p := ⟨w.heap.size + 1, 1, none⟩) hlt6).trans d1; have k5 := (hb7.cell (p := ⟨w.heap.size + 1, 2, none⟩) hlt6).trans d2; have k6 := (hb7.cell (p := ⟨w.heap.size + 1, 3, none⟩) hlt6).trans d3; have k7 := (hb7.cell (p := ⟨w.heap.size + 1, 4, none⟩) hlt6).trans d4)
       | (go_at_call 20; refine (HCP.out _ (HR.out _ (hK6.below hb7))).mono ?_; rintro e w8 ⟨r8, rfl, hS8, hO8, hb8⟩; have hb87 : Below w6.heap.size w6 w8 := hb7.trans (hb8.mono hb7.size); have k0 := (hb87.cell (p := ⟨w.heap.size, 0, none⟩) hlt6a).trans c0; have k1 := (hb87.cell (p := ⟨w.heap.size, 1, none⟩) hlt6a).trans c1; have k2 := (hb87.cell (p := ⟨w.heap.size, 2, none⟩) hlt6a).trans c2; have k3 := (hb87.cell (p := ⟨w.heap.size + 1, 0, none⟩) hlt6).trans d0; have k4 := (hb87.cell (p := ⟨w.heap.size + 1, 1, none⟩) hlt6).trans d1; have k5 := (hb87.cell (p := ⟨w.heap.size + 1, 2, none⟩) hlt6).trans d2; have k6 := (hb87.cell (p := ⟨w.heap.size + 1, 3, none⟩) hlt6).trans d3; have k7 := (hb87.cell (p := ⟨w.heap.size + 1, 4, none⟩) hlt6).trans d4)
       | (go_at_call 39; refine (HSO.out _ r8 g7 cp7 (hF7.below hb8) (HAT.out _ _ hS8 _ hO8) hS8).mono ?_; intro e w9 hp9; obtain ⟨hb9d, hq9⟩ := hp9; rw [if_pos hE0] at hq9; subst hq9; have hb9 : Below w6.heap.size w6 w9 := hb87.trans (hb9d.mono hb87.size); have k0 := (hb9.cell (p := ⟨w.heap.size, 0, none⟩) hlt6a).trans c0; have k1 := (hb9.cell (p := ⟨w.heap.size, 1, none⟩) hlt6a).trans c1; have k2 := (hb9.cell (p := ⟨w.heap.size, 2, none⟩) hlt6a).trans c2; have k3 := (hb9.cell (p := ⟨w.heap.size + 1, 0, none⟩) hlt6).trans d0; have k4 := (hb9.cell (p := ⟨w.heap.size + 1, 1, none⟩) hlt6).trans d1; have k5 := (hb9.cell (p := ⟨w.heap.size + 1, 2, none⟩) hlt6).trans d2; have k6 := (hb9.cell (p := ⟨w.heap.size + 1, 3, none⟩) hlt6).trans d3; have k7 := (hb9.cell (p := ⟨w.heap.size + 1, 4, none⟩) hlt6).trans d4))
    have hK9 := hK6.below hb9
    clear c0 c1 c2 d0 d1 d2 d3 d4 k0 k1 k2 k3 k4 k5 k6 k7
    obtain ⟨c0, c1, c2⟩ := hK9.fc
    go_wp2_with fail
    refine (HFE.out _ hK9).mono ?_
    rintro e w10 ⟨rfl, hb10⟩
    have hK10 := hK9.below hb10
    clear c0 c1 c2
    by_cases hf0 : FE = 0
    · have hfb : (FE == 0) = true := by rw [hf0]; rfl
      go_wp2_with fail
      refine (HIW.out _).mono ?_
      rintro e w11 ⟨rfl, rfl⟩
      cases hw : isWordB s
      · have HV := Lib.hid (show R = (0, 3) by rw [HFR.out, HWI.out, hw, hf0]; rfl)
        rw [HV.out]
        clear hw
        obtain ⟨c0, c1, c2⟩ := hK10.fc
        obtain ⟨d0, d1, d2, d3, d4⟩ := hK10.rc
        go_wp2_with fail
        refine (HWE.out _ hK10).mono ?_
        rintro e w20 ⟨rfl, hb20⟩
        have hK20 := hK10.below hb20
        clear c0 c1 c2 d0 d1 d2 d3 d4
        have hlow := hK20.low
        go_wp2
        go_ret
        exact ⟨rfl, hlow⟩
      · obtain ⟨d0, d1, d2⟩ := hK10.fc
        have HRX := HRM.out _ hK10 (HFE0.out hf0)
        cases hm : missAt f s with
        | none =>
          rw [hm] at HRX
          have HV := Lib.hid (show R = (0, 12) by rw [HFR.out, HWI.out, hw, hf0, hm]; rfl)
          rw [HV.out]
          clear hm hw
          dsimp only at HRX
          go_wp2_with fail
          refine HRX.mono ?_
          rintro e w12 ⟨rfl, hb12⟩
          have hK12 := hK10.below hb12
          clear d0 d1 d2 HRX
          obtain ⟨c0, c1, c2⟩ := hK12.fc
          obtain ⟨d0, d1, d2, d3, d4⟩ := hK12.rc
          go_wp2_with fail
          refine (HWE.out _ hK12).mono ?_
          rintro e w20 ⟨rfl, hb20⟩
          have hK20 := hK12.below hb20
          clear c0 c1 c2 d0 d1 d2 d3 d4
          have hlow := hK20.low
          go_wp2
          go_ret
          exact ⟨rfl, hlow⟩
        | some i =>
          rw [hm] at HRX
          have HV := Lib.hid (show R = ((i : Int), 0) by rw [HFR.out, HWI.out, hw, hf0, hm]; rfl)
          rw [HV.out]
          clear hm hw
          dsimp only at HRX
          go_wp2_with fail
          refine HRX.mono ?_
          rintro e w12 ⟨rfl, hb12⟩
          have hK12 := hK10.below hb12
          clear d0 d1 d2 HRX
          have hi0 : ¬ (i : Int) < 0 := by omega
          have hi1 : decide ((i : Int) < 0) = false := decide_eq_false hi0
          have hi2 : max (0 : Int) (i : Int) = (i : Int) := by omega
          have hi3 : (0 : Int) ≤ (i : Int) := by omega
          obtain ⟨c0, c1, c2⟩ := hK12.fc
          obtain ⟨d0, d1, d2, d3, d4⟩ := hK12.rc
          go_wp2_with fail
          refine (HWE.out _ hK12).mono ?_
          rintro e w20 ⟨rfl, hb20⟩
          have hK20 := hK12.below hb20
          clear c0 c1 c2 d0 d1 d2 d3 d4
          have hlow := hK20.low
          go_wp2
          go_ret
          exact ⟨rfl, hlow⟩
    · have hfb : (FE == 0) = false := by simpa using hf0
      have HV := Lib.hid (show R = (0, FE) by rw [HFR.out, if_pos hf0, if_pos hf0])
      rw [HV.out]
      obtain ⟨c0, c1, c2⟩ := hK10.fc
      obtain ⟨d0, d1, d2, d3, d4⟩ := hK10.rc
      go_wp2_with fail
      refine (HWE.out _ hK10).mono ?_
      rintro e w20 ⟨rfl, hb20⟩
      have hK20 := hK10.below hb20
      clear c0 c1 c2 d0 d1 d2 d3 d4
      have hlow := hK20.low
      go_wp2
      go_ret
      exact ⟨rfl, hlow⟩
end Go.Proofs.YtpoadjnhmdbdeaaGreatDoor
