/-
  Walk of TextBack.
-/
import Derived.Test.YtlkkociijfdcgaaGreatDoorRB
import Derived.Test.YtlkkociijfdcgaaGreatDoorRA
import Derived.Deep.OwnRows
namespace Go.Proofs.YtlkkociijfdcgaaGreatDoor
open Go.RowKit Go.Maps Go.Shelf

theorem wordsE_few {f : FT} {r : RU} {ws : List ByteArray} (h : ws.length ≤ 8) : wordsE f r ws = 0 ∨ wordsE f r ws = 3 ∨ wordsE f r ws = 6 := by
  have hw : ∀ s, wErrO f r s = 0 ∨ wErrO f r s = 3 ∨ wErrO f r s = 6 := by
    intro s
    unfold wErrO wordErr
    cases isWordB s
    · right; left; rfl
    · cases wordSet f r s
      · right; right; rfl
      · left; rfl
  unfold wordsE
  rw [if_neg (by omega)]
  split
  · exact .inl rfl
  · exact hw _
theorem wordsE_zero {f : FT} {r : RU} {ws : List ByteArray} (h : wordsE f r ws = 0) (hf : (checkF f).2 = 0) {k : Nat} (hk : k < ws.length) : 1 ≤ (ws.getD k noTx).size ∧ PathP (wordP f none 0 r (ws.getD k noTx) 0 (ws.getD k noTx).size) 0 (wordsX f r ws k).1 ∧ ((wordsX f r ws k).1.length ≤ 100 ∧ 0 < (wordsX f r ws k).1.length) ∧ (wordsX f r ws k).1.any (idxBad f.sorts.length) = false := by
  have hb : wErrO f r (ws.getD k noTx) = 0 := by
    unfold wordsE at h
    split at h
    · cases h
    · split at h
      · rename_i hn
        have := firstAt_none hn k (Nat.zero_le _) (by omega)
        unfold badW at this
        simpa using this
      · rename_i i hi
        have := (firstAt_some hi).1
        unfold badW at this
        rw [h] at this
        cases this
  obtain ⟨s, hs⟩ : ∃ s, s = ws.getD k noTx := ⟨_, rfl⟩
  unfold wordsX
  rw [← hs] at hb ⊢
  unfold wErrO at hb
  by_cases hw : wordErr s = 0
  case neg => rw [if_pos hw] at hb; exact absurd hb hw
  rw [if_neg (fun h => h hw)] at hb
  obtain ⟨h1, h2⟩ := word_size hw
  unfold wordX
  cases ho : wordSet f r s with
  | none => rw [ho] at hb; exact absurd (show (6 : Int) = 0 from hb) (by decide)
  | some l =>
    have hp : PathP (wordP f none 0 r s 0 s.size) 0 l := longP_some ho
    have hT := texted hf
    have hlen := path_len (p := wordP f none 0 r s 0 s.size) hT l 0 hp
    have hz : (wordP f none 0 r s 0 s.size).t.size = s.size := by rw [show (wordP f none 0 r s 0 s.size).t = s from ext_whole s]
    refine ⟨h1, hp, ⟨?_, ?_⟩, path_idx hp⟩
    · show l.length ≤ 100
      omega
    · show 0 < l.length
      rcases Nat.eq_zero_or_pos l.length with h | h
      · have : l = [] := List.length_eq_zero_iff.1 h
        subst this
        have : 0 = (wordP f none 0 r s 0 s.size).t.size := hp
        omega
      · exact h
/-- The last sort that is a space. -/
def spTo (f : FT) : Nat → Int
  | 0 => -1
  | k + 1 => if (f.sorts.getD k noTS).kind = 3 then (k : Int) else spTo f k
theorem spTo_ok (f : FT) : ∀ k, k ≤ f.sorts.length → spTo f k = -1 ∨ ∃ i : Nat, spTo f k = (i : Int) ∧ i < f.sorts.length ∧ (f.sorts.getD i noTS).kind = 3
  | 0, _ => .inl rfl
  | k + 1, hk => by
    unfold spTo
    by_cases h : (f.sorts.getD k noTS).kind = 3
    · rw [if_pos h]; exact .inr ⟨k, rfl, by omega, h⟩
    · rw [if_neg h]; exact spTo_ok f k (by omega)
theorem BkAt.cellLast {B : Nat} {W0 wr : World} {L : List LN} {x : LN} {gv c n : Nat} (h : BkAt B W0 (L ++ [x]) (.slice (some ⟨gv, 0, none⟩) n c) wr) : wr.cell? ⟨gv, L.length * 2 + 1, none⟩ = some x.sl ∧ wr.frozen? ⟨gv, L.length * 2 + 1, none⟩ = false ∧ n = L.length + 1 ∧ B ≤ gv ∧ gv < wr.heap.size := by
  have hlt := (h.row.lt gv rfl).2
  have hB := (h.row.lt gv rfl).1
  rcases h.row.2 with ⟨e1, _⟩ | ⟨g', cap, cur, e1, h1, h2, h3, h4, h5, h6⟩
  · cases e1
  · cases e1
    have hn : (L ++ [x]).length = L.length + 1 := by rw [List.length_append, List.length_singleton]
    have hq : (flatL (L ++ [x]))[L.length * 2 + 1]? = some x.sl := by rw [flatL_snoc, ← flatL_len, List.getElem?_append_right (by omega), show (flatL L).length + 1 - (flatL L).length = 1 by omega]; rfl
    refine ⟨?_, by simp [World.frozen?, h2], hn, hB, hlt⟩
    have hc := h.row.cells (g := gv) rfl (L.length * 2 + 1) _ hq
    have e : (⟨gv, L.length * 2 + 1, none⟩ : Addr) = (⟨gv, 0, none⟩ : Addr).add (L.length * 2 + 1) := by simp [Addr.add]
    rw [e]; exact hc
theorem addU (g k : Nat) : (⟨g, 0, none⟩ : Addr).add k = ⟨g, k, none⟩ := by
  unfold Addr.add
  split
  · rename_i h; rw [h]
  · simp
theorem infoBl : (Tryz.prog.info? 4).map (fun i => (i.zero, i.size, i.bytes)) = some (some (.bool false), 1, 1) := by kernel_rfl
theorem made_bools {W : World} {b n : Nat} (h : W.heap[b]? = some (.cells (madeCells #[.bool false] n) 4 (0, 0))) : BoolsAt W (some ⟨b, 0, none⟩) (List.replicate n false) := fun k hk => by
  rw [List.length_replicate] at hk
  refine ⟨_, rfl, heap_lt h, ?_⟩
  rw [getD_rep]
  rw [addU, cell_of_row W b k _ _ (0, 0) h]
  simp [madeCells, hk, Nat.mod_one]
theorem flatL_at (L : List LN) (k : Nat) (hk : k < L.length) : (flatL L)[k * 2]? = some (.int .i64 (L.getD k noLN).ms) ∧ (flatL L)[k * 2 + 1]? = some (L.getD k noLN).sl := by
  induction L generalizing k with
  | nil => exact absurd hk (Nat.not_lt_zero _)
  | cons x L ih =>
    cases k with
    | zero => exact ⟨rfl, rfl⟩
    | succ k =>
      have h := ih k (by simpa using hk)
      rw [show (k + 1) * 2 = k * 2 + 2 by omega]
      exact ⟨h.1, h.2⟩
theorem BkAt.lines {B : Nat} {W0 wr : World} {L : List LN} {A : Option Addr} {n c : Nat} (h : BkAt B W0 L (.slice A n c) wr) : LinesAt wr A L := fun k hk => by
  have hm : L.getD k noLN ∈ L := by rw [List.getD_eq_getElem?_getD, List.getElem?_eq_getElem hk]; exact List.getElem_mem hk
  rcases h.row.2 with ⟨_, e2⟩ | ⟨g, cap, cur, e1, _, e3, _⟩
  · omega
  · cases e1
    obtain ⟨h1, h2⟩ := flatL_at L k hk
    have hI := (IRow.ints (h.ints _ hm)).2
    refine ⟨_, rfl, heap_lt e3, ⟨h.row.cells (g := g) rfl (k * 2) _ h1, ?_⟩, hI⟩
    have h3 := h.row.cells (g := g) rfl (k * 2 + 1) _ h2
    have e : (⟨((⟨g, 0, none⟩ : Addr).add (k * 2)).block, ((⟨g, 0, none⟩ : Addr).add (k * 2)).off + 1, none⟩ : Addr) = (⟨g, 0, none⟩ : Addr).add (k * 2 + 1) := by rw [addU, addU]
    rw [e]; exact h3
theorem BkAt.ok {B : Nat} {W0 wr : World} {L : List LN} {v : Value} {n : Nat} (h : BkAt B W0 L v wr) (hln : ∀ k, k < L.length → LnOk n (L.getD k noLN).l) : OkL L := by
  refine ⟨?_, fun k hk => ⟨by have := (hln k hk).1; unfold maxLen; omega, ?_⟩⟩
  · rcases h.row.2 with ⟨_, e2⟩ | ⟨g, cap, cur, e1, _, _, h3, h4, _⟩
    · omega
    · exact Nat.le_trans h3 h4
  · have hm : L.getD k noLN ∈ L := by rw [List.getD_eq_getElem?_getD, List.getElem?_eq_getElem hk]; exact List.getElem_mem hk
    obtain ⟨a9, c9, e9, -, h9, -⟩ := (h.ints _ hm).shape
    unfold LN.sl at e9
    injection e9 with _ _ e9
    rw [e9]; exact h9
theorem valsAppU (l1 l2 : List Int) : vals (l1 ++ l2) = vals l1 ++ vals l2 := by simp [vals]
theorem BkAt.shape {B : Nat} {W0 wr : World} {L : List LN} {x : LN} {v : Value} (h : BkAt B W0 (L ++ [x]) v wr) : ∃ gv cv, v = .slice (some ⟨gv, 0, none⟩) (L.length + 1) cv := by
  rcases h.row.2 with ⟨_, e2⟩ | ⟨g, cap, cur, e1, _⟩
  · rw [List.length_append, List.length_singleton] at e2; cases e2
  · exact ⟨g, cap, by rw [e1, List.length_append, List.length_singleton]⟩
theorem infoLn : (Tryz.prog.info? 113).map (fun i => (i.zero, i.size, i.bytes)) = some (some (.agg #[.int .i64 0, .slice none 0 0]), 2, 32) := by kernel_rfl
theorem lead_ints (w : World) (i n : Nat) (hn : n ≤ 1) : IntsAt (w.alloc (.cells #[.int .i64 i] 3)) (some ⟨w.heap.size, 0, none⟩) (List.replicate n (i : Int)) := fun k hk => by
  rw [List.length_replicate] at hk
  obtain rfl : k = 0 := by omega
  obtain rfl : n = 1 := by omega
  exact ⟨_, rfl, heap_lt (heap_new w _), cell_of_row _ _ 0 _ _ (0, 0) (heap_new w _)⟩
set_option maxRecDepth 100000 in
set_option maxHeartbeats 8000000 in
theorem back_walk (f : FT) (a : Option Addr) (c : Nat) (r : RU) (b : Option Addr) (ws : List ByteArray) (d : Nat) (w : World) (hF : FIn w f a c) (hR : r.at_ w) (hT : TabOk w) (hc : capR r) (hX : TextsAt w b ws) (hl : ws.length ≤ maxLen) (hS : SizesOk ws) (hd : b = none → d = 0) :
    Calls Tryz.prog 14 #[.agg #[.string f.name, .int .i64 f.body, .slice a f.sorts.length c], .agg r.cells, .slice b ws.length d] w fun e w' => e = .returned (.bool true) ∧ Below w.heap.size w w' := by
  have hK0 := frk_start w f a c r
  have HF := Lib.hid (fun W (h : FRK w f a c r W) => hF.below h.low)
  have HR := Lib.hid (fun W (h : FRK w f a c r W) => hR.below h.low)
  have HX := Lib.hid (fun W (h : FRK w f a c r W) => hX.below h.low)
  have HT := Lib.hid (fun W (h : FRK w f a c r W) => hT.below h.low hT.1)
  have hz : SizesOk r.ps.l ∧ SizesOk r.es.l ∧ SizesOk r.bs.l := ⟨hR.1.2.2, hR.2.1.2.2, hR.2.2.2.2⟩
  have HSR := Lib.hid (fun W (h : r.at_ W) => Short_any r W h)
  have HCP0 := Lib.hid (fun W (h : r.at_ W) h1 h2 h3 => copyRules_any r W h hc h1 h2 h3)
  have HSH := Lib.hid (fun W (h : TextsAt W b ws) => short_any b ws d 8 8 W h hl (by omega) (by omega))
  have hcap := hF.nil
  have HCX0 := Lib.hid (fun W (h : TextsAt W b ws) h1 => copyTexts_any b ws d W h h1 hd)
  unfold RU.cells at *
  unfold maxLen at hl
  clear hF hR hT hc hX
  go_enter Tryz.func14, Tryz.ntmps14
  go_wp2_with fail
  refine (awake_any _ (HT.out _ hK0)).mono ?_
  rintro e w2 ⟨rfl, hb2⟩
  have hK2 := hK0.below hb2
  clear hK0 hb2
  obtain ⟨c0, c1, c2⟩ := hK2.fc
  go_wp2_with fail
  refine (few2_any f a c _ (HF.out _ hK2).at_.ok (HF.out _ hK2).at_.at_).mono ?_
  rintro e w3 ⟨rfl, hb3⟩
  have hK3 := hK2.below hb3
  clear hK2 hb3 c0 c1 c2
  cases hfew : few2B f
  · have hlow := hK3.low
    go_wp2
    go_ret
    exact ⟨rfl, hlow⟩
  obtain ⟨d0, d1, d2, d3, d4⟩ := hK3.rc
  go_wp2_with fail
  refine (HSR.out _ (HR.out _ hK3)).mono ?_
  rintro e w4 ⟨rfl, hb4⟩
  have hK4 := hK3.below hb4
  clear hK3 hb4 d0 d1 d2 d3 d4
  cases hsh : shortR r
  · have hlow := hK4.low
    go_wp2
    go_ret
    exact ⟨rfl, hlow⟩
  go_wp2_with fail
  refine (HSH.out _ (HX.out _ hK4)).mono ?_
  rintro e w4' ⟨rfl, rfl⟩
  cases hsw : shortB ws 8 8
  · have hlow := hK4.low
    go_wp2
    go_ret
    exact ⟨rfl, hlow⟩
  obtain ⟨hSm, hl1, hl2, hl3⟩ := small_short hsh
  obtain ⟨hwl, hws⟩ := short_small hsw
  have hn122 := few2_len hfew
  by_cases h8 : 8 < ws.length
  · have hlow := hK4.low
    have g1 : decide ((8 : Int) < (ws.length : Int)) = true := decide_eq_true (by omega)
    have i1 : (8 : Int) < (ws.length : Int) := by omega
    go_wp2
    go_ret
    exact ⟨rfl, hlow⟩
  have g1 : decide ((8 : Int) < (ws.length : Int)) = false := decide_eq_false (by omega)
  have i1 : ¬ (8 : Int) < (ws.length : Int) := by omega
  have hl : r.ps.l.length ≤ 1000 ∧ r.es.l.length ≤ 1000 ∧ r.bs.l.length ≤ 1000 := ⟨by omega, by omega, by omega⟩
  have HCP := Lib.hid (fun W (h : r.at_ W) => HCP0.out W h hl.1 hl.2.1 hl.2.2)
  have HCX := Lib.hid (fun W (h : TextsAt W b ws) => HCX0.out W h (by omega))
  have HCF := Lib.hid (fun W (h : FRK w f a c r W) => copyFount_any f a c W (HF.out W h).at_ (by omega) hcap)
  have HFE := Lib.hid (fun W (h : FRK w f a c r W) => refFountErr_any f a c W (HF.out W h))
  have HRE := Lib.hid (fun W (h : FRK w f a c r W) => refErr_any r W (HR.out W h) hSm.1 hSm.2.1 hSm.2.2)
  have HAT := Lib.hid (fun W (r2 : RU) (h1 : SameR r r2) B (h2 : OwnR W B r2) => own_at h1 h2 hz hl)
  obtain ⟨FE, hFE⟩ : ∃ FE, FE = (checkF f).2 := ⟨_, rfl⟩
  obtain ⟨RE, hRE⟩ : ∃ RE, RE = (checkR r).2 := ⟨_, rfl⟩
  rw [← hFE] at HFE
  rw [← hRE] at HRE
  unfold RU.cells at HCP HRE
  obtain ⟨c0, c1, c2⟩ := hK4.fc
  go_wp2_with fail
  refine (HFE.out _ hK4).mono ?_
  rintro e w5 ⟨rfl, hb5⟩
  have hK5 := hK4.below hb5
  clear hK4 hb5 c0 c1 c2
  by_cases hf0 : FE = 0
  case neg =>
    have hfb : (FE != 0) = true := by simpa using hf0
    have hlow := hK5.low
    go_wp2
    go_ret
    exact ⟨rfl, hlow⟩
  have hfb : (FE != 0) = false := by rw [hf0]; rfl
  obtain ⟨d0, d1, d2, d3, d4⟩ := hK5.rc
  go_wp2_with fail
  refine (HRE.out _ hK5).mono ?_
  rintro e w6 ⟨rfl, hb6⟩
  have hK6 := hK5.below hb6
  clear hK5 hb6 d0 d1 d2 d3 d4
  by_cases hr0 : RE = 0
  case neg =>
    have hrb : (RE != 0) = true := by simpa using hr0
    have hlow := hK6.low
    go_wp2
    go_ret
    exact ⟨rfl, hlow⟩
  have hrb : (RE != 0) = false := by rw [hr0]; rfl
  have hcf : (checkF f).2 = 0 := by rw [← hFE]; exact hf0
  have hcr : (checkR r).2 = 0 := by rw [← hRE]; exact hr0
  have HWO := Lib.hid (fun W (r2 : RU) (g k g2 k2 : Nat) (h1 : FAt W (some ⟨g, 0, none⟩) f) (h2 : r2.at_ W) (h3 : SameR r r2) (h4 : TextsAt W (some ⟨g2, 0, none⟩) ws) => words_ans f (some ⟨g, 0, none⟩) k r r2 (some ⟨g2, 0, none⟩) ws k2 W h1 h2 h3 h4 (by unfold maxLen; omega) hS)
  have hse : setErr f r = 0 := by unfold setErr; rw [if_neg (fun h => h hcf)]; exact hcr
  obtain ⟨fn, hfn⟩ : ∃ fn, fn = wordsX f r ws := ⟨_, rfl⟩
  obtain ⟨E, hE⟩ : ∃ E, E = wordsE f r ws := ⟨_, rfl⟩
  have hE36 : E = 0 ∨ E = 3 ∨ E = 6 := by rw [hE]; exact wordsE_few (by omega)
  rw [if_neg (fun h => h hse), ← hE, ← hfn] at HWO
  unfold RU.cells at HWO
  have HOK := Lib.hid (fun (h : E = 0) (k : Nat) (hk : k < ws.length) => wordsE_zero (f := f) (r := r) (ws := ws) (by rw [← hE]; exact h) hcf hk)
  rw [← hfn] at HOK
  have HSP := Lib.hid (spTo_ok f f.sorts.length (Nat.le_refl _))
  clear hFE hRE hfn hE hsh hfew hsw HSR HCP0 HCX0 HSH hz HT HFE HRE
  obtain ⟨c0, c1, c2⟩ := hK6.fc
  have hFs := Lib.hid (HF.out _ hK6).at_.at_
  go_wp2_with fail
  go_loop [7, 8] (fun v7 v8 => ∃ k : Nat, k ≤ f.sorts.length ∧ v8 = .int .i64 k ∧ v7 = .int .i64 (spTo f k)) (fun _ v8 => f.sorts.length - (intOf v8).toNat)
  case atStart => exact ⟨0, Nat.zero_le _, rfl, rfl⟩
  case round =>
    obtain ⟨k, hk, rfl, rfl⟩ := hrel
    by_cases hlt : k < f.sorts.length
    · have hkl : (k : Int) < (f.sorts.length : Int) := by omega
      have hk0 : (0 : Int) ≤ (k : Int) := by omega
      obtain ⟨ad, rfl, had, hsx⟩ := hFs.out.at_ hlt
      have t2 := hsx.2.2.1
      have HQ := Lib.hid (show spTo f (k + 1) = if (f.sorts.getD k noTS).kind = 3 then (k : Int) else spTo f k from rfl)
      generalize f.sorts.getD k noTS = x at t2 HQ
      generalize spTo f k = sp0 at HQ ⊢
      clear hsx
      by_cases h3 : x.kind = 3
      · go_wp2
        go_round
        case rel => exact ⟨k + 1, by omega, by go_num, by rw [HQ.out, if_pos h3]⟩
        case measure => simp [intOf]; omega
      · go_wp2
        go_round
        case rel => exact ⟨k + 1, by omega, by go_num, by rw [HQ.out, if_neg h3]⟩
        case measure => simp [intOf]; omega
    · obtain rfl : k = f.sorts.length := by omega
      have hkl : ¬ (f.sorts.length : Int) < (f.sorts.length : Int) := by omega
      obtain ⟨SP, hSP⟩ : ∃ SP, SP = spTo f f.sorts.length := ⟨_, rfl⟩
      rw [← hSP] at HSP ⊢
      clear hSP hFs
      obtain ⟨d0, d1, d2, d3, d4⟩ := hK6.rc
      have hlt4 := hK6.lt
      have hlt4a : w.heap.size < w6.heap.size := by omega
      go_wp2_with fail
      go_region_held3 (fun w' => w'.cell? ⟨w.heap.size, 0, none⟩ = some (.string f.name) ∧ w'.cell? ⟨w.heap.size, 1, none⟩ = some (.int .i64 f.body) ∧ w'.cell? ⟨w.heap.size, 2, none⟩ = some (.slice a f.sorts.length c) ∧ w'.cell? ⟨w.heap.size + 1, 0, none⟩ = some (.slice r.ps.a r.ps.l.length r.ps.c) ∧ w'.cell? ⟨w.heap.size + 1, 1, none⟩ = some (.slice r.es.a r.es.l.length r.es.c) ∧ w'.cell? ⟨w.heap.size + 1, 2, none⟩ = some (.slice r.bs.a r.bs.l.length r.bs.c) ∧ w'.cell? ⟨w.heap.size + 1, 3, none⟩ = some (.int .i64 r.left) ∧ w'.cell? ⟨w.heap.size + 1, 4, none⟩ = some (.int .i64 r.right)) (go_keep)
        (first
         | (go_at_call 38; refine (HCF.out _ (by first | exact hK6 | exact ⟨hK6.fb, hK6.rb, hK6.low.drew⟩)).mono ?_; rintro e w7 ⟨g7, cp7, rfl, hk7, hF7, hb7d⟩; have hb7 : Below w6.heap.size w6 w7 := (Below.refl _ _).drew.trans hb7d; have k0 := (hb7.cell (p := ⟨w.heap.size, 0, none⟩) hlt4a).trans c0; have k1 := (hb7.cell (p := ⟨w.heap.size, 1, none⟩) hlt4a).trans c1; have k2 := (hb7.cell (p := ⟨w.heap.size, 2, none⟩) hlt4a).trans c2; have k3 := (hb7.cell (p := ⟨w.heap.size + 1, 0, none⟩) hlt4).trans d0; have k4 := (hb7.cell (p := ⟨w.heap.size + 1, 1, none⟩) hlt4).trans d1; have k5 := (hb7.cell (p := ⟨w.heap.size + 1, 2, none⟩) hlt4).trans d2; have k6 := (hb7.cell (p := ⟨w.heap.size + 1, 3, none⟩) hlt4).trans d3; have k7 := (hb7.cell (p := ⟨w.heap.size + 1, 4, none⟩) hlt4).trans d4)
         | (go_at_call 20; refine (HCP.out _ (HR.out _ (hK6.below hb7))).mono ?_; rintro e w8 ⟨r8, rfl, hS8, hO8, hb8⟩; have hb87 : Below w6.heap.size w6 w8 := hb7.trans (hb8.mono hb7.size); have k0 := (hb87.cell (p := ⟨w.heap.size, 0, none⟩) hlt4a).trans c0; have k1 := (hb87.cell (p := ⟨w.heap.size, 1, none⟩) hlt4a).trans c1; have k2 := (hb87.cell (p := ⟨w.heap.size, 2, none⟩) hlt4a).trans c2; have k3 := (hb87.cell (p := ⟨w.heap.size + 1, 0, none⟩) hlt4).trans d0; have k4 := (hb87.cell (p := ⟨w.heap.size + 1, 1, none⟩) hlt4).trans d1; have k5 := (hb87.cell (p := ⟨w.heap.size + 1, 2, none⟩) hlt4).trans d2; have k6 := (hb87.cell (p := ⟨w.heap.size + 1, 3, none⟩) hlt4).trans d3; have k7 := (hb87.cell (p := ⟨w.heap.size + 1, 4, none⟩) hlt4).trans d4)
         | (go_at_call 51; refine (HCX.out _ (HX.out _ (hK6.below hb87))).mono ?_; rintro e w9 ⟨g9, cp9, rfl, ho9, hb9d⟩; have hX9 := texts_own ho9 rfl rfl; have hb9 : Below w6.heap.size w6 w9 := hb87.trans (hb9d.mono hb87.size); have k0 := (hb9.cell (p := ⟨w.heap.size, 0, none⟩) hlt4a).trans c0; have k1 := (hb9.cell (p := ⟨w.heap.size, 1, none⟩) hlt4a).trans c1; have k2 := (hb9.cell (p := ⟨w.heap.size, 2, none⟩) hlt4a).trans c2; have k3 := (hb9.cell (p := ⟨w.heap.size + 1, 0, none⟩) hlt4).trans d0; have k4 := (hb9.cell (p := ⟨w.heap.size + 1, 1, none⟩) hlt4).trans d1; have k5 := (hb9.cell (p := ⟨w.heap.size + 1, 2, none⟩) hlt4).trans d2; have k6 := (hb9.cell (p := ⟨w.heap.size + 1, 3, none⟩) hlt4).trans d3; have k7 := (hb9.cell (p := ⟨w.heap.size + 1, 4, none⟩) hlt4).trans d4)
         | (go_at_call 50; refine (HWO.out _ r8 g7 cp7 g9 cp9 ((hF7.below hb8).below hb9d) ((HAT.out _ _ hS8 _ hO8).below hb9d) hS8 hX9).mono ?_; rintro e wA ⟨hbAd, A1, m1, cA, rfl, hV1, hm1⟩; replace hm1 := Lib.hid hm1; replace hV1 := Lib.hid hV1; have hbA : Below w6.heap.size w6 wA := hb9.trans (hbAd.mono hb9.size); have k0 := (hbA.cell (p := ⟨w.heap.size, 0, none⟩) hlt4a).trans c0; have k1 := (hbA.cell (p := ⟨w.heap.size, 1, none⟩) hlt4a).trans c1; have k2 := (hbA.cell (p := ⟨w.heap.size, 2, none⟩) hlt4a).trans c2; have k3 := (hbA.cell (p := ⟨w.heap.size + 1, 0, none⟩) hlt4).trans d0; have k4 := (hbA.cell (p := ⟨w.heap.size + 1, 1, none⟩) hlt4).trans d1; have k5 := (hbA.cell (p := ⟨w.heap.size + 1, 2, none⟩) hlt4).trans d2; have k6 := (hbA.cell (p := ⟨w.heap.size + 1, 3, none⟩) hlt4).trans d3; have k7 := (hbA.cell (p := ⟨w.heap.size + 1, 4, none⟩) hlt4).trans d4))
      have hKA := hK6.below hbA
      clear c0 c1 c2 d0 d1 d2 d3 d4 hK6 hbA hlt4 hlt4a hb7 hb8 hb87 hb9 hF7 hO8 hS8 hX9 ho9 hbAd hb7d hb9d k0 k1 k2 k3 k4 k5 k6 k7
      have hlow := hKA.low
      have hmm := hm1.out
      rcases hE36 with rfl | rfl | rfl
      case inr.inl =>
        go_wp2
        go_ret
        exact ⟨rfl, hlow⟩
      case inr.inr =>
        go_wp2
        go_ret
        exact ⟨rfl, hlow⟩
      rcases HSP.out with rfl | ⟨i, rfl, hi, hki⟩
      · go_wp2
        go_ret
        exact ⟨rfl, hlow⟩
      rw [if_pos rfl] at hmm
      subst hmm
      have HOK2 := Lib.hid (HOK.out rfl)
      have hi0 : ¬ ((i : Int) < 0) := by omega
      clear hlow hm1 HSP HOK
      obtain ⟨q, hq⟩ : ∃ q : Nat → List Int, q = fun k => (fn k).1 := ⟨_, rfl⟩
      have HQ := Lib.hid hq
      clear hq
      go_wp2_with fail
      go_loopw [11, 12] (fun v11 v12 wr => ∃ (k : Nat) (L : List LN), k ≤ ws.length ∧ v12 = .int .i64 k ∧ L.map LN.l = bkTo i q k ∧ (∀ x ∈ L, x.ms = 0) ∧ BkAt wA.heap.size wA L v11 wr) (fun _ v12 _ => ws.length - (intOf v12).toNat)
      case atStart => exact ⟨0, [], Nat.zero_le _, rfl, rfl, fun _ h => absurd h List.not_mem_nil, BkAt.start (Nat.le_refl _)⟩
      case round =>
        obtain ⟨k, L, hk, rfl, hLm, hms, hBk⟩ := hrel
        by_cases hlt : k < ws.length
        · have hkl : (k : Int) < (ws.length : Int) := by omega
          have hk8 : k < 8 := by omega
          by_cases hev : k % 2 = 0
          · have hrem : (k : Int).tmod 2 = 0 := by rw [Int.tmod_eq_emod_of_nonneg (by omega)]; omega
            have hn1 : k / 2 % 2 ≤ 1 := by omega
            have HCI := Lib.hid (show Calls Tryz.prog 48 #[.slice (some ⟨wr.heap.size, 0, none⟩) (k / 2 % 2) 1] (wr.alloc (.cells #[.int .i64 i] 3)) (fun e w' => ∃ g cap, e = .returned (.slice (some ⟨g, 0, none⟩) (k / 2 % 2) cap) ∧ IRow w' (wr.heap.size + 1) (.slice (some ⟨g, 0, none⟩) (k / 2 % 2) cap) (List.replicate (k / 2 % 2) (i : Int)) ∧ Below wr.heap.size wr w') by
              have h := copyInts_any (some ⟨wr.heap.size, 0, none⟩) (List.replicate (k / 2 % 2) (i : Int)) 1 (wr.alloc (.cells #[.int .i64 i] 3)) (lead_ints wr i _ hn1) (by rw [List.length_replicate]; omega) (fun h => by cases h)
              rw [List.length_replicate] at h
              refine Calls.mono h ?_
              rintro e w' ⟨g, cap, he, ho, hb⟩
              rw [List.length_replicate] at he ho
              rw [World.size_alloc] at ho
              refine ⟨g, cap, he, ?_, ((Below.refl _ _).alloc (Nat.le_refl _) _).trans (hb.mono (by simp))⟩
              unfold IRow
              rw [List.length_replicate]
              exact ho)
            obtain ⟨j0, hj0, hy0, hy1, hy2⟩ := info_parts infoLn
            go_wp2_with fail
            refine HCI.out.mono ?_
            rintro e w5 ⟨g5, cp5, rfl, ho5, hb5⟩
            have hBk5 := hBk.below hb5
            have hLk : L.length ≤ k := by have h := (bk_ok (n := f.sorts.length) (q := q) hi (m := ws.length) (fun k hk => by rw [HQ.out]; exact ⟨(HOK2.out k hk).2.2.1.1, (HOK2.out k hk).2.2.2⟩) k hk).1; rw [← hLm, List.length_map] at h; exact h
            have hrow5 := own_low2 hBk5.row ((Below.refl w5.heap.size w5).alloc (Nat.le_refl _) (.cells #[.int .i64 0, .slice (some ⟨g5, 0, none⟩) (k / 2 % 2) cp5] 113))
            have h63 : L.length + 1 ≤ maxLen := by unfold maxLen; omega
            have hby : (L.length + 1) * 32 ≤ 140737488355328 := by omega
            have hbs := hBk5.size
            go_wp2_with (at_builtin; refine wpList_append_lies _ rfl _ _ _ rfl wA.heap.size 113 j0 _ 2 32 Tryz.underlying114 hj0 hy0 hy1 hy2 rfl (by omega) _ L.length (flatL L) rfl hrow5 ⟨w5.heap.size, 0, none⟩ 1 1 [.int .i64 0, .slice (some ⟨g5, 0, none⟩) (k / 2 % 2) cp5] rfl rfl (World.news_of_block (heap_new w5 (.cells #[.int .i64 0, .slice (some ⟨g5, 0, none⟩) (k / 2 % 2) cp5] 113))) (by simp [Value.oneCell']) (by omega) h63 hby (by simp; omega) (w5.heap.size + 1) (by simp) ?_; intro gv cv w6 hrow6 hgrow6 hor6 hlt6)
            have hP : BkAt wA.heap.size wA (L ++ [⟨0, some ⟨g5, 0, none⟩, cp5, List.replicate (k / 2 % 2) (i : Int)⟩]) (.slice (some ⟨gv, 0, none⟩) (L.length + 1) cv) w6 := by
              refine BkAt.push hBk (hb5.trans ((Below.refl _ _).alloc hb5.size _)) ?_ hgrow6 ?_
              · show IRow _ _ (.slice _ (List.replicate _ _).length _) _
                rw [List.length_replicate]
                exact (ho5.alloc _).mono (by omega)
              · unfold LN.sl
                rw [List.length_replicate]
                exact hrow6
            obtain ⟨y0, y1, -, hgB, hgl⟩ := hP.cellLast
            obtain ⟨gW, a1, c1, a2, c2, rfl, hgW, hv0, -, hi1, -⟩ := hV1.out k hlt
            obtain ⟨-, -, ⟨hq100, hq0⟩, -⟩ := HOK2.out k hlt
            have hxl : (⟨0, some ⟨g5, 0, none⟩, cp5, List.replicate (k / 2 % 2) (i : Int)⟩ : LN).l.length ≤ 101 := by show (List.replicate _ _).length ≤ 101; rw [List.length_replicate]; omega
            have hsx := hP.ints (⟨0, some ⟨g5, 0, none⟩, cp5, List.replicate (k / 2 % 2) (i : Int)⟩ : LN) (List.mem_append_right _ (List.mem_singleton.2 rfl))
            obtain ⟨adW, ea, hadW, -⟩ := hi1 0 hq0
            subst ea
            have hv6 := (hP.low.cell (p := ⟨gW, k * 2, none⟩) hgW).trans hv0
            have hn6 := hi1.below hP.low
            obtain ⟨i0, hi0', hz0, hz1, hz2⟩ := info_parts info3
            obtain ⟨m, hmq⟩ : ∃ m, m = (fn k).1.length := ⟨_, rfl⟩
            have hnews : ∀ j u, (vals (fn k).1)[j]? = some u → w6.cell? (adW.add j) = some u := by
              intro j u hu
              have hj : j < (fn k).1.length := by
                rcases Nat.lt_or_ge j (fn k).1.length with h | h
                · exact h
                · rw [List.getElem?_eq_none (by unfold vals; rw [List.length_map]; exact h)] at hu; cases hu
              rw [vals_at hj] at hu
              cases hu
              obtain ⟨ad', e', -, hc⟩ := hn6 j hj
              cases e'
              exact hc
            have hvl : (vals (fn k).1).length = m * 1 := by rw [hmq]; unfold vals; rw [List.length_map, Nat.mul_one]
            have h1c : ∀ u ∈ vals (fn k).1, u.oneCell' = true := fun u hu => by
              unfold vals at hu
              obtain ⟨z, _, rfl⟩ := List.mem_map.1 hu
              rfl
            have hVV := Lib.hid hvl
            rw [← hmq] at hv6 hq100 hq0
            have hsz6 := hP.size
            have hmx : (⟨0, some ⟨g5, 0, none⟩, cp5, List.replicate (k / 2 % 2) (i : Int)⟩ : LN).l.length + m ≤ maxLen := by unfold maxLen; omega
            have hby2 : ((⟨0, some ⟨g5, 0, none⟩, cp5, List.replicate (k / 2 % 2) (i : Int)⟩ : LN).l.length + m) * 8 ≤ 140737488355328 := by omega
            have hof := hP.off (List.mem_append_right _ (List.mem_singleton.2 rfl)) (y := (⟨0, some ⟨g5, 0, none⟩, cp5, List.replicate (k / 2 % 2) (i : Int)⟩ : LN))
            have hkp : (k : Int) * 1 = k := by omega
            have hwL : IntKind.i64.wrap (L.length : Int) = (L.length : Int) := IntWalk.i64_in _ (by omega)
            have hL0 : (0 : Int) ≤ (L.length : Int) := by omega
            have hL1 : (L.length : Int) < (L.length : Int) + 1 := by omega
            have HMQ := Lib.hid hmq
            have HVL := Lib.hid hvl
            clear hn6 hi1 hv0 hmq hvl
            go_region_law (first
              | (refine step_append_lies _ (by rfl) _ _ _ (by rfl) wA.heap.size 3 i0 _ 1 8 Tryz.underlying63 hi0' hz0 hz1 hz2 rfl (by omega) _ (⟨0, some ⟨g5, 0, none⟩, cp5, List.replicate (k / 2 % 2) (i : Int)⟩ : LN).l.length _ (by rfl) (World.ownsRow.drew hsx) adW m c1 (vals (fn k).1) (by rfl) HVL.out hnews h1c hq0 hmx hby2 hsz6 w6.heap.size (by rfl) ?_; intro g7 c7 w7 hrow7 hgrow7 hor7 hlt7; have y7 : w7.cell? ⟨gv, L.length * 2 + 1, none⟩ = some (⟨0, some ⟨g5, 0, none⟩, cp5, List.replicate (k / 2 % 2) (i : Int)⟩ : LN).sl := (hgrow7.cell_far ⟨gv, L.length * 2 + 1, none⟩ hgl (fun e => hof _ e.symm rfl)).trans y0; have z7 : w7.frozen? ⟨gv, L.length * 2 + 1, none⟩ = false := (hgrow7.frozen_far ⟨gv, L.length * 2 + 1, none⟩ hgl (fun e => hof _ e.symm rfl)).trans y1))
            all_goals
              have hr7 : IRow w7 wA.heap.size (.slice (some ⟨g7, 0, none⟩) ((⟨0, some ⟨g5, 0, none⟩, cp5, List.replicate (k / 2 % 2) (i : Int)⟩ : LN).l ++ (fn k).1).length c7) ((⟨0, some ⟨g5, 0, none⟩, cp5, List.replicate (k / 2 % 2) (i : Int)⟩ : LN).l ++ (fn k).1) := by
                unfold IRow
                rw [List.length_append, valsAppU, ← HMQ.out]
                exact hrow7
              have hQ := BkAt.last (w1 := w6.drew) hP (Below.refl _ _).drew hgrow7 hr7 hor7
              have hll : ((⟨0, some ⟨g5, 0, none⟩, cp5, List.replicate (k / 2 % 2) (i : Int)⟩ : LN).l ++ (fn k).1).length = k / 2 % 2 + m := by
                show (List.replicate _ _ ++ _).length = _
                rw [List.length_append, List.length_replicate, HMQ.out]
              rw [hll] at hQ
              clear hr7 hrow7 hgrow7 hP hsx y0 y1 y7 z7
              go_wp2
              go_roundw
              case rel =>
                refine ⟨k + 1, _, by omega, by go_num, ?_, ?_, hQ⟩
                · rw [List.map_append, hLm]
                  show _ = if k % 2 = 0 then _ else _
                  rw [if_pos hev, HQ.out]
                  rfl
                · intro y hy
                  rcases List.mem_append.1 hy with hy | hy
                  · exact hms y hy
                  · rw [List.mem_singleton.1 hy]
              case measure => simp [intOf]; omega
          · have hrem : (k : Int).tmod 2 = 1 := by rw [Int.tmod_eq_emod_of_nonneg (by omega)]; omega
            obtain ⟨-, -, hlast⟩ := bk_ok (n := f.sorts.length) (q := q) hi (m := ws.length) (fun k hk => by rw [HQ.out]; exact ⟨(HOK2.out k hk).2.2.1.1, (HOK2.out k hk).2.2.2⟩) k hk
            obtain ⟨hl101, -, hbne⟩ := hlast (by omega)
            have hne : L ≠ [] := fun e => by rw [e] at hLm; exact hbne hLm.symm
            obtain ⟨L1, x, rfl⟩ : ∃ L1 x, L = L1 ++ [x] := ⟨L.dropLast, L.getLast hne, (List.dropLast_concat_getLast hne).symm⟩
            have hLk : L1.length ≤ k := by have h := (bk_ok (n := f.sorts.length) (q := q) hi (m := ws.length) (fun k hk => by rw [HQ.out]; exact ⟨(HOK2.out k hk).2.2.1.1, (HOK2.out k hk).2.2.2⟩) k hk).1; rw [← hLm, List.length_map, List.length_append] at h; omega
            rw [← hLm, List.map_append, List.map_cons, List.map_nil, List.getLastD_concat] at hl101
            obtain ⟨gv, cv, hvs⟩ := hBk.shape
            subst hvs
            obtain ⟨y0, y1, -, hgB, hgl⟩ := hBk.cellLast
            have hsx := hBk.ints x (List.mem_append_right _ (List.mem_singleton.2 rfl))
            have hof := hBk.off (List.mem_append_right _ (List.mem_singleton.2 rfl)) (y := x)
            obtain ⟨i0, hi0', hz0, hz1, hz2⟩ := info_parts info3
            have hwL : IntKind.i64.wrap (L1.length : Int) = (L1.length : Int) := IntWalk.i64_in _ (by omega)
            have hL0 : (0 : Int) ≤ (L1.length : Int) := by omega
            have hL1 : (L1.length : Int) < (L1.length : Int) + 1 := by omega
            have h63 : x.l.length + 1 ≤ maxLen := by unfold maxLen; omega
            have hby : (x.l.length + 1) * 8 ≤ 140737488355328 := by omega
            have hbs := hBk.size
            have hba := (Below.refl wr.heap.size wr).alloc (Nat.le_refl _) (.cells #[.int .i64 i] 3)
            have hsa : (wr.alloc (.cells #[.int .i64 i] 3)).ownsRow wA.heap.size 3 1 (.slice x.a x.l.length x.c) x.l.length (vals x.l) := hsx.below hba
            have y5 := (hba.cell (p := ⟨gv, L1.length * 2 + 1, none⟩) hgl).trans y0
            have z5 := (hba.frozen (p := ⟨gv, L1.length * 2 + 1, none⟩) hgl).trans y1
            unfold LN.sl at y0 y5
            clear hbne hne hlast
            go_wp2_with (at_builtin; refine wpList_append_lies _ rfl _ _ _ rfl wA.heap.size 3 i0 _ 1 8 Tryz.underlying63 hi0' hz0 hz1 hz2 rfl (by omega) _ x.l.length (vals x.l) rfl hsa ⟨wr.heap.size, 0, none⟩ 1 1 [.int .i64 i] rfl rfl (World.news_of_block (heap_new wr (.cells #[.int .i64 i] 3))) (by simp [Value.oneCell']) (by omega) h63 hby (by simp; omega) (wr.heap.size + 1) (by simp) ?_; intro g5 c5 w5 hrow5 hgrow5 hor5 hlt5; have y6 : w5.cell? ⟨gv, L1.length * 2 + 1, none⟩ = some (.slice x.a x.l.length x.c) := (hgrow5.cell_far ⟨gv, L1.length * 2 + 1, none⟩ (by simp; omega) (fun e => hof _ e.symm rfl)).trans y5; have z6 : w5.frozen? ⟨gv, L1.length * 2 + 1, none⟩ = false := (hgrow5.frozen_far ⟨gv, L1.length * 2 + 1, none⟩ (by simp; omega) (fun e => hof _ e.symm rfl)).trans z5)
            have hP := BkAt.last (l' := x.l ++ [(i : Int)]) hBk hba hgrow5 (by unfold IRow; rw [List.length_append, List.length_singleton, valsAppU]; exact hrow5) (by rw [World.size_alloc]; exact hor5)
            rw [show (x.l ++ [(i : Int)]).length = x.l.length + 1 by rw [List.length_append, List.length_singleton]] at hP
            obtain ⟨w6, hw6⟩ : ∃ w6, w6 = w5.setCell ⟨gv, L1.length * 2 + 1, none⟩ (.slice (some ⟨g5, 0, none⟩) (x.l.length + 1) c5) := ⟨_, rfl⟩
            rw [← hw6] at hP ⊢
            clear y0 y1 y5 z5 y6 z6 hgB hgl hsx hof hrow5 hgrow5 hor5 hlt5 hsa hba hBk hwL hL0 hL1 hw6
            obtain ⟨y0, y1, -, hgB, hgl⟩ := hP.cellLast
            obtain ⟨gW, a1, c1, a2, c2, rfl, hgW, hv0, -, hi1, -⟩ := hV1.out k hlt
            obtain ⟨-, -, ⟨hq100, hq0⟩, -⟩ := HOK2.out k hlt
            have hxl : (⟨x.ms, some ⟨g5, 0, none⟩, c5, x.l ++ [(i : Int)]⟩ : LN).l.length ≤ 102 := by show (x.l ++ [(i : Int)]).length ≤ 102; rw [List.length_append, List.length_singleton]; omega
            have hsx := hP.ints (⟨x.ms, some ⟨g5, 0, none⟩, c5, x.l ++ [(i : Int)]⟩ : LN) (List.mem_append_right _ (List.mem_singleton.2 rfl))
            obtain ⟨adW, ea, hadW, -⟩ := hi1 0 hq0
            subst ea
            have hv6 := (hP.low.cell (p := ⟨gW, k * 2, none⟩) hgW).trans hv0
            have hn6 := hi1.below hP.low
            obtain ⟨m, hmq⟩ : ∃ m, m = (fn k).1.length := ⟨_, rfl⟩
            have hnews : ∀ j u, (vals (fn k).1)[j]? = some u → w6.cell? (adW.add j) = some u := by
              intro j u hu
              have hj : j < (fn k).1.length := by
                rcases Nat.lt_or_ge j (fn k).1.length with h | h
                · exact h
                · rw [List.getElem?_eq_none (by unfold vals; rw [List.length_map]; exact h)] at hu; cases hu
              rw [vals_at hj] at hu
              cases hu
              obtain ⟨ad', e', -, hc⟩ := hn6 j hj
              cases e'
              exact hc
            have hvl : (vals (fn k).1).length = m * 1 := by rw [hmq]; unfold vals; rw [List.length_map, Nat.mul_one]
            have h1c : ∀ u ∈ vals (fn k).1, u.oneCell' = true := fun u hu => by
              unfold vals at hu
              obtain ⟨z, _, rfl⟩ := List.mem_map.1 hu
              rfl
            have hVV := Lib.hid hvl
            rw [← hmq] at hv6 hq100 hq0
            have hsz6 := hP.size
            have hmx : (⟨x.ms, some ⟨g5, 0, none⟩, c5, x.l ++ [(i : Int)]⟩ : LN).l.length + m ≤ maxLen := by unfold maxLen; omega
            have hby2 : ((⟨x.ms, some ⟨g5, 0, none⟩, c5, x.l ++ [(i : Int)]⟩ : LN).l.length + m) * 8 ≤ 140737488355328 := by omega
            have hof := hP.off (List.mem_append_right _ (List.mem_singleton.2 rfl)) (y := (⟨x.ms, some ⟨g5, 0, none⟩, c5, x.l ++ [(i : Int)]⟩ : LN))
            have hkp : (k : Int) * 1 = k := by omega
            have hwL : IntKind.i64.wrap (L1.length : Int) = (L1.length : Int) := IntWalk.i64_in _ (by omega)
            have hL0 : (0 : Int) ≤ (L1.length : Int) := by omega
            have hL1 : (L1.length : Int) < (L1.length : Int) + 1 := by omega
            have HMQ := Lib.hid hmq
            have HVL := Lib.hid hvl
            clear hn6 hi1 hv0 hmq hvl
            go_region_law (first
              | (refine step_append_lies _ (by rfl) _ _ _ (by rfl) wA.heap.size 3 i0 _ 1 8 Tryz.underlying63 hi0' hz0 hz1 hz2 rfl (by omega) _ (⟨x.ms, some ⟨g5, 0, none⟩, c5, x.l ++ [(i : Int)]⟩ : LN).l.length _ (by rfl) (World.ownsRow.drew hsx) adW m c1 (vals (fn k).1) (by rfl) HVL.out hnews h1c hq0 hmx hby2 hsz6 w6.heap.size (by rfl) ?_; intro g7 c7 w7 hrow7 hgrow7 hor7 hlt7; have y7 : w7.cell? ⟨gv, L1.length * 2 + 1, none⟩ = some (⟨x.ms, some ⟨g5, 0, none⟩, c5, x.l ++ [(i : Int)]⟩ : LN).sl := (hgrow7.cell_far ⟨gv, L1.length * 2 + 1, none⟩ hgl (fun e => hof _ e.symm rfl)).trans y0; have z7 : w7.frozen? ⟨gv, L1.length * 2 + 1, none⟩ = false := (hgrow7.frozen_far ⟨gv, L1.length * 2 + 1, none⟩ hgl (fun e => hof _ e.symm rfl)).trans y1))
            all_goals
              have hr7 : IRow w7 wA.heap.size (.slice (some ⟨g7, 0, none⟩) ((⟨x.ms, some ⟨g5, 0, none⟩, c5, x.l ++ [(i : Int)]⟩ : LN).l ++ (fn k).1).length c7) ((⟨x.ms, some ⟨g5, 0, none⟩, c5, x.l ++ [(i : Int)]⟩ : LN).l ++ (fn k).1) := by
                unfold IRow
                rw [List.length_append, valsAppU, ← HMQ.out]
                exact hrow7
              have hQ := BkAt.last (w1 := w6.drew) hP (Below.refl _ _).drew hgrow7 hr7 hor7
              have hll : ((⟨x.ms, some ⟨g5, 0, none⟩, c5, x.l ++ [(i : Int)]⟩ : LN).l ++ (fn k).1).length = x.l.length + 1 + m := by
                show (x.l ++ [(i : Int)] ++ _).length = _
                rw [List.length_append, List.length_append, List.length_singleton, HMQ.out]
              rw [hll] at hQ
              clear hr7 hrow7 hgrow7 hP hsx y0 y1 y7 z7
              go_wp2
              go_roundw
              case rel =>
                refine ⟨k + 1, _, by omega, by go_num, ?_, ?_, hQ⟩
                · rw [List.map_append] at hLm ⊢
                  show _ = if k % 2 = 0 then _ else modL _ (bkTo (i : Int) q k)
                  rw [if_neg hev, ← hLm]
                  show _ = modL _ (L1.map LN.l ++ [x.l])
                  rw [modL_snoc, HQ.out]
                  rfl
                · intro y hy
                  rcases List.mem_append.1 hy with hy | hy
                  · exact hms y (List.mem_append_left _ hy)
                  · rw [List.mem_singleton.1 hy]; exact hms x (List.mem_append_right _ (List.mem_singleton.2 rfl))
              case measure => simp [intOf]; omega
        · obtain rfl : k = ws.length := by omega
          have hkl : ¬ (ws.length : Int) < (ws.length : Int) := by omega
          obtain ⟨AL, CL, hvL, hLC, -⟩ := own_form hBk.row
          subst hvL
          have hKz := hKA.below hBk.low
          obtain ⟨hlk, hok, -⟩ := bk_ok (n := f.sorts.length) (q := q) hi (m := ws.length) (fun k hk => by rw [HQ.out]; exact ⟨(HOK2.out k hk).2.2.1.1, (HOK2.out k hk).2.2.2⟩) ws.length (Nat.le_refl _)
          rw [← hLm] at hlk hok
          rw [List.length_map] at hlk
          have hln : ∀ k, k < L.length → LnOk f.sorts.length (L.getD k noLN).l := fun k hk => by
            rw [List.getD_eq_getElem?_getD, List.getElem?_eq_getElem hk]
            exact hok _ (List.mem_map.2 ⟨_, List.getElem_mem hk, rfl⟩)
          have hre := readErr_lines (L := L) hcf (by omega) hln
          have hrw := readW_lines (f := f) (r := r) (L := L) hki (fun k hk => ⟨(HOK2.out k hk).1, by rw [HQ.out]; exact (HOK2.out k hk).2.1⟩) hLm
          obtain ⟨c0, c1, c2⟩ := hKz.fc
          have hw0 := hBk.size
          have HRB := Lib.hid (fun W (g k bB : Nat) (h1 : FAt W (some ⟨g, 0, none⟩) f) (hB : W.heap[bB]? = some (.cells (madeCells #[.bool false] L.length) 4 (0, 0))) (hK : BkAt wA.heap.size wA L (.slice AL L.length CL) W) => (show Calls Tryz.prog 70 #[.agg #[.string f.name, .int .i64 f.body, .slice (some ⟨g, 0, none⟩) f.sorts.length k], .slice AL L.length CL, .slice (some ⟨bB, 0, none⟩) L.length L.length] W (fun e w' => ∃ A k', e = .returned (.tuple #[.slice A ws.length k', .int .i64 0]) ∧ TextsAt w' A ws ∧ Below W.heap.size W w') by
            have h := readBack_any f (some ⟨g, 0, none⟩) k AL L CL (some ⟨bB, 0, none⟩) (List.replicate L.length false) L.length W h1 hK.lines (hK.ok hln) hLC (made_bools hB) (by rw [List.length_replicate]; unfold maxLen; omega)
            rw [List.length_replicate] at h
            refine Calls.mono h ?_
            rintro e w' ⟨hb, hp⟩
            rw [if_pos hre] at hp
            obtain ⟨v, rfl, hrow⟩ := hp
            rw [hrw] at hrow
            obtain ⟨A, k', rfl, hT⟩ := row_texts hrow
            exact ⟨A, k', rfl, hT, hb⟩))
          clear hre hrw
          go_wp2_with fail
          go_cut [13, 14] from 146 to 155 (fun v13 v14 wx => ∃ A k', v13 = .slice A ws.length k' ∧ v14 = .int .i64 0 ∧ TextsAt wx A ws ∧ FRK w f a c r wx)
          case first =>
            rename_i J9 K1 hR9 hM9
            refine Code.wp_mono (Q := Exit.then K1 (fun _ _ _ => False)) (fun e a w h => by cases e <;> first | exact h | exact h.elim) ?_
            refine wp_region_held (S := fun w' => w'.cell? ⟨w.heap.size, 0, none⟩ = some (.string f.name) ∧ w'.cell? ⟨w.heap.size, 1, none⟩ = some (.int .i64 f.body) ∧ w'.cell? ⟨w.heap.size, 2, none⟩ = some (.slice a f.sorts.length c)) (by kernel_rfl) ?_
            change wpAnyH _ _ _ _ _ _ _ _ wr.drew
            have hBd := hBk.below (Below.refl _ _).drew
            have hKd : FRK w f a c r wr.drew := hKz.below (Below.refl _ _).drew
            have hS := hKd.fc
            clear hBk hKz c0 c1 c2
            have hL8 : L.length ≤ 8 := by omega
            have hmk := fun W => run_make_row' (P := Tryz.prog) 115 4 (.bool false) 1 Tryz.underlying115 infoBl rfl .i64 .i64 L.length (by omega) (by omega) W
            refine takeU (i := 0) (v := .agg #[.string f.name, .int .i64 f.body, .slice a f.sorts.length c]) rfl (by kernel_rfl) (Or.inl ⟨by rfl, fun V9 h9 => by dsimp only at h9; go_simp⟩) hS ?_
            try simp only [Act.put, List.setIfInBounds_toArray, List.set_cons_zero, List.set_cons_succ]
            refine takeU (i := 2) (v := .slice AL L.length CL) rfl (by kernel_rfl) (Or.inl ⟨by rfl, fun V9 h9 => by dsimp only at h9; go_simp⟩) hS ?_
            try simp only [Act.put, List.setIfInBounds_toArray, List.set_cons_zero, List.set_cons_succ]
            refine takeU (i := 3) (v := .slice AL L.length CL) rfl (by kernel_rfl) (Or.inl ⟨by rfl, fun V9 h9 => by dsimp only at h9; go_simp⟩) hS ?_
            try simp only [Act.put, List.setIfInBounds_toArray, List.set_cons_zero, List.set_cons_succ]
            refine takeU (i := 4) (v := .int .i64 L.length) rfl (by kernel_rfl) (Or.inl ⟨by rfl, fun V9 h9 => by dsimp only at h9; go_simp⟩) hS ?_
            try simp only [Act.put, List.setIfInBounds_toArray, List.set_cons_zero, List.set_cons_succ]
            refine wpAnyH_ready (rs := [1,5]) (by kernel_rfl) (by simp) (consL rfl (fun K9 hK9 => ?_) (consL rfl (fun K9 hK9 => ?_) AllReadyH.nil))
            · go_simp
              refine (HCF.out _ hKd).mono ?_
              rintro e w7 ⟨g7, cp7, rfl, hk7, hF7, hb7d⟩
              have hK7 := hKd.below hb7d
              have hB7 := hBd.below hb7d
              refine hK9.out _ _ hK7.fc (fun hS => ?_)
              clear hK9 K9
              try simp only [Act.put, List.setIfInBounds_toArray, List.set_cons_zero, List.set_cons_succ]
              refine wpAnyH_ready (rs := [5]) (by kernel_rfl) (by simp) (consL rfl (fun K9 hK9 => ?_) AllReadyH.nil)
              go_simp
              have hK8 := hK7.below (ba (.cells (madeCells #[.bool false] L.length) 4))
              have hB8 := hB7.below (ba (.cells (madeCells #[.bool false] L.length) 4))
              have hF8 := hF7.below (ba (.cells (madeCells #[.bool false] L.length) 4))
              have hBn := heap_new w7 (.cells (madeCells #[.bool false] L.length) 4)
              refine hK9.out _ _ hK8.fc (fun hS => ?_)
              clear hK9 K9
              try simp only [Act.put, List.setIfInBounds_toArray, List.set_cons_zero, List.set_cons_succ]
              refine wpAnyH_ready (rs := [6]) (by kernel_rfl) (by simp) (consL rfl (fun K9 hK9 => ?_) AllReadyH.nil)
              go_simp
              refine (HRB.out _ g7 cp7 _ hF8 hBn hB8).mono ?_
              rintro e wB ⟨A, k', rfl, hT, hbB⟩
              have hKB := hK8.below hbB
              refine hK9.out _ _ hKB.fc (fun hS => ?_)
              clear hK9 K9
              try simp only [Act.put, List.setIfInBounds_toArray, List.set_cons_zero, List.set_cons_succ]
              refine takeU (i := 7) (v := .tuple #[.slice A ws.length k', .int .i64 0]) rfl (by kernel_rfl) (Or.inl ⟨by rfl, fun V9 h9 => by dsimp only at h9; go_simp⟩) hS ?_
              try simp only [Act.put, List.setIfInBounds_toArray, List.set_cons_zero, List.set_cons_succ]
              refine takeU (i := 8) (v := .slice A ws.length k') rfl (by kernel_rfl) (Or.inl ⟨by rfl, fun V9 h9 => by dsimp only at h9; go_simp⟩) hS ?_
              try simp only [Act.put, List.setIfInBounds_toArray, List.set_cons_zero, List.set_cons_succ]
              refine takeU (i := 9) (v := .int .i64 0) rfl (by kernel_rfl) (Or.inl ⟨by rfl, fun V9 h9 => by dsimp only at h9; go_simp⟩) hS ?_
              try simp only [Act.put, List.setIfInBounds_toArray, List.set_cons_zero, List.set_cons_succ]
              refine takeU (i := 10) (v := .slice A ws.length k') rfl (by kernel_rfl) (Or.inl ⟨by rfl, fun V9 h9 => by dsimp only at h9; go_simp⟩) hS ?_
              try simp only [Act.put, List.setIfInBounds_toArray, List.set_cons_zero, List.set_cons_succ]
              refine takeU (i := 11) (v := .int .i64 0) rfl (by kernel_rfl) (Or.inl ⟨by rfl, fun V9 h9 => by dsimp only at h9; go_simp⟩) hS ?_
              try simp only [Act.put, List.setIfInBounds_toArray, List.set_cons_zero, List.set_cons_succ]
              refine wpAnyH_done (by kernel_rfl) ?_ _
              refine hM9 _ _ ?_
              go_meet
              exact ⟨A, k', rfl, rfl, hT, hKB⟩
            · go_simp
              have hK8 := hKd.below (ba (.cells (madeCells #[.bool false] L.length) 4))
              have hBd := hBd.below (ba (.cells (madeCells #[.bool false] L.length) 4))
              have hBn0 : (wr.drew.alloc (.cells (madeCells #[.bool false] L.length) 4)).heap[wr.heap.size]? = some (.cells (madeCells #[.bool false] L.length) 4 (0, 0)) := heap_new wr.drew (.cells (madeCells #[.bool false] L.length) 4)
              refine hK9.out _ _ hK8.fc (fun hS => ?_)
              clear hK9 K9
              try simp only [Act.put, List.setIfInBounds_toArray, List.set_cons_zero, List.set_cons_succ]
              refine wpAnyH_ready (rs := [1]) (by kernel_rfl) (by simp) (consL rfl (fun K9 hK9 => ?_) AllReadyH.nil)
              go_simp
              refine (HCF.out _ hK8).mono ?_
              rintro e w7 ⟨g7, cp7, rfl, hk7, hF7, hb7d⟩
              have hK7 := hK8.below hb7d
              have hB7 := hBd.below hb7d
              have hBn := (hb7d.block _ (heap_lt hBn0)).trans hBn0
              refine hK9.out _ _ hK7.fc (fun hS => ?_)
              clear hK9 K9
              try simp only [Act.put, List.setIfInBounds_toArray, List.set_cons_zero, List.set_cons_succ]
              refine wpAnyH_ready (rs := [6]) (by kernel_rfl) (by simp) (consL rfl (fun K9 hK9 => ?_) AllReadyH.nil)
              go_simp
              refine (HRB.out _ g7 cp7 _ hF7 hBn hB7).mono ?_
              rintro e wB ⟨A, k', rfl, hT, hbB⟩
              have hKB := hK7.below hbB
              refine hK9.out _ _ hKB.fc (fun hS => ?_)
              clear hK9 K9
              try simp only [Act.put, List.setIfInBounds_toArray, List.set_cons_zero, List.set_cons_succ]
              refine takeU (i := 7) (v := .tuple #[.slice A ws.length k', .int .i64 0]) rfl (by kernel_rfl) (Or.inl ⟨by rfl, fun V9 h9 => by dsimp only at h9; go_simp⟩) hS ?_
              try simp only [Act.put, List.setIfInBounds_toArray, List.set_cons_zero, List.set_cons_succ]
              refine takeU (i := 8) (v := .slice A ws.length k') rfl (by kernel_rfl) (Or.inl ⟨by rfl, fun V9 h9 => by dsimp only at h9; go_simp⟩) hS ?_
              try simp only [Act.put, List.setIfInBounds_toArray, List.set_cons_zero, List.set_cons_succ]
              refine takeU (i := 9) (v := .int .i64 0) rfl (by kernel_rfl) (Or.inl ⟨by rfl, fun V9 h9 => by dsimp only at h9; go_simp⟩) hS ?_
              try simp only [Act.put, List.setIfInBounds_toArray, List.set_cons_zero, List.set_cons_succ]
              refine takeU (i := 10) (v := .slice A ws.length k') rfl (by kernel_rfl) (Or.inl ⟨by rfl, fun V9 h9 => by dsimp only at h9; go_simp⟩) hS ?_
              try simp only [Act.put, List.setIfInBounds_toArray, List.set_cons_zero, List.set_cons_succ]
              refine takeU (i := 11) (v := .int .i64 0) rfl (by kernel_rfl) (Or.inl ⟨by rfl, fun V9 h9 => by dsimp only at h9; go_simp⟩) hS ?_
              try simp only [Act.put, List.setIfInBounds_toArray, List.set_cons_zero, List.set_cons_succ]
              refine wpAnyH_done (by kernel_rfl) ?_ _
              refine hM9 _ _ ?_
              go_meet
              exact ⟨A, k', rfl, rfl, hT, hKB⟩
          case rest =>
            obtain ⟨A, k', rfl, rfl, hT, hKx⟩ := hcut
            have hlow := hKx.low
            have HTX := Lib.hid (show Calls Tryz.prog 71 #[.slice A ws.length k', .slice b ws.length d] wc (fun e w' => e = .returned (.bool true) ∧ Drew wc w') from Calls.mono (texts_any A ws k' b ws d wc hT (HX.out _ hKx) (by unfold maxLen; omega) (by unfold maxLen; omega)) (fun e w' h => by
              obtain ⟨⟨q, rfl, hq⟩, hd⟩ := h
              rw [hq.2 rfl]
              exact ⟨rfl, hd⟩))
            go_wp2_with fail
            refine HTX.out.mono ?_
            rintro e w11 ⟨rfl, hd⟩
            have hlow2 : Below w.heap.size w w11 := by obtain ⟨n, rfl⟩ := hd; exact below_drewN hlow n
            go_wp2
            go_ret
            exact ⟨rfl, hlow2⟩
end Go.Proofs.YtlkkociijfdcgaaGreatDoor
