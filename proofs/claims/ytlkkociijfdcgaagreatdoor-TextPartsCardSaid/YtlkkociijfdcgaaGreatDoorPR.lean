/-
  Walk of TextParts.
-/
import Derived.Test.YtlkkociijfdcgaaGreatDoorPQ
namespace Go.Proofs.YtlkkociijfdcgaaGreatDoor
open Go.RowKit Go.Maps Go.Shelf

theorem partErr2_same {f : FT} {r r' : RU} (h : SameR r r') (s : ByteArray) (place : Int) : partErr2 f r' s place = partErr2 f r s place := by
  unfold partErr2 partR aheadP behindP wordP
  rw [setErrW_same h, ruleHyph_same h, barsOf_same h]
/-- The boxes of the call. -/
structure LTK (w : World) (f : FT) (a : Option Addr) (c : Nat) (r : RU) (s : ByteArray) (place : Int) (wr : World) : Prop where
  fr : FRK w f a c r wr
  tb : wr.heap[w.heap.size + 2]? = some (.cells #[.string s, .int .i64 place] 104 (0, 0))
section
variable {w wr wr' : World} {f : FT} {a : Option Addr} {c : Nat} {r : RU} {s : ByteArray} {place : Int}
theorem LTK.below (h : LTK w f a c r s place wr) (hb : Below wr.heap.size wr wr') : LTK w f a c r s place wr' := ⟨h.fr.below hb, (hb.block _ (heap_lt h.tb)).trans h.tb⟩
theorem LTK.drew (h : LTK w f a c r s place wr) : LTK w f a c r s place wr.drew := ⟨⟨h.fr.fb, h.fr.rb, h.fr.low.drew⟩, h.tb⟩
theorem LTK.alloc (h : LTK w f a c r s place wr) (o : Obj) : LTK w f a c r s place (wr.alloc o) := h.below ((Below.refl _ _).alloc (Nat.le_refl _) o)
theorem LTK.set (h : LTK w f a c r s place wr) {p : Addr} (hp : w.heap.size + 3 ≤ p.block) (u : Value) : LTK w f a c r s place (wr.setCell p u) :=
  ⟨⟨(Below.heap_setCell _ _ _ _ (by omega)).trans h.fr.fb, (Below.heap_setCell _ _ _ _ (by omega)).trans h.fr.rb, h.fr.low.setCell (by omega) u⟩, (Below.heap_setCell _ _ _ _ (by omega)).trans h.tb⟩
theorem LTK.tc (h : LTK w f a c r s place wr) : wr.cell? ⟨w.heap.size + 2, 0, none⟩ = some (.string s) ∧ wr.cell? ⟨w.heap.size + 2, 1, none⟩ = some (.int .i64 place) := ⟨cell_of_row wr _ 0 _ _ (0, 0) h.tb, cell_of_row wr _ 1 _ _ (0, 0) h.tb⟩
theorem LTK.start : LTK w f a c r s place (((w.alloc (.cells #[.string f.name, .int .i64 f.body, .slice a f.sorts.length c] 59)).alloc (.cells #[.slice r.ps.a r.ps.l.length r.ps.c, .slice r.es.a r.es.l.length r.es.c, .slice r.bs.a r.bs.l.length r.bs.c, .int .i64 r.left, .int .i64 r.right] 24)).alloc (.cells #[.string s, .int .i64 place] 104)) := by
  refine ⟨(frk_start w f a c r).below ((Below.refl _ _).alloc (Nat.le_refl _) _), ?_⟩
  have h := heap_new ((w.alloc (.cells #[.string f.name, .int .i64 f.body, .slice a f.sorts.length c] 59)).alloc (.cells #[.slice r.ps.a r.ps.l.length r.ps.c, .slice r.es.a r.es.l.length r.es.c, .slice r.bs.a r.bs.l.length r.bs.c, .int .i64 r.left, .int .i64 r.right] 24)) (.cells #[.string s, .int .i64 place] 104)
  rw [World.size_alloc, World.size_alloc] at h
  exact h
theorem LTK.lt (h : LTK w f a c r s place wr) : w.heap.size + 2 < wr.heap.size := heap_lt h.tb
theorem LTK.cells (h : LTK w f a c r s place wr) : wr.cell? ⟨w.heap.size, 0, none⟩ = some (.string f.name) ∧ wr.cell? ⟨w.heap.size, 1, none⟩ = some (.int .i64 f.body) ∧ wr.cell? ⟨w.heap.size, 2, none⟩ = some (.slice a f.sorts.length c) ∧ wr.cell? ⟨w.heap.size + 1, 0, none⟩ = some (.slice r.ps.a r.ps.l.length r.ps.c) ∧ wr.cell? ⟨w.heap.size + 1, 1, none⟩ = some (.slice r.es.a r.es.l.length r.es.c) ∧ wr.cell? ⟨w.heap.size + 1, 2, none⟩ = some (.slice r.bs.a r.bs.l.length r.bs.c) ∧ wr.cell? ⟨w.heap.size + 1, 3, none⟩ = some (.int .i64 r.left) ∧ wr.cell? ⟨w.heap.size + 1, 4, none⟩ = some (.int .i64 r.right) ∧ wr.cell? ⟨w.heap.size + 2, 0, none⟩ = some (.string s) ∧ wr.cell? ⟨w.heap.size + 2, 1, none⟩ = some (.int .i64 place) :=
  ⟨h.fr.fc.1, h.fr.fc.2.1, h.fr.fc.2.2, h.fr.rc.1, h.fr.rc.2.1, h.fr.rc.2.2.1, h.fr.rc.2.2.2.1, h.fr.rc.2.2.2.2, h.tc.1, h.tc.2⟩
end
abbrev Z2 : Obj := .cells #[.slice none 0 0, .slice none 0 0] 105
abbrev LO (A0 A1 : Option Addr) (k0 k1 : Nat) (L0 L1 : List Int) : Obj := .cells #[.int .i64 0, .slice A0 L0.length k0, .int .i64 0, .slice A1 L1.length k1] 113
abbrev LB : Obj := .cells #[.bool true, .bool false] 4
theorem ba {w : World} (o : Obj) : Below w.heap.size w (w.alloc o) := (Below.refl _ _).alloc (Nat.le_refl _) o
theorem takeU {P : Program} {md : Region.Mode} {ops : Array Oper} {K : Act → World → Prop} {S : World → Prop} {i : Nat} {oi : Oper} {v : Value} {fuel : Nat} {listed : Array Bool} {a : Act} {w : World} (hi : ops.toList[i]? = some oi) (hd : (Region.noSelect ops && (Region.free md ops listed i && (Region.ready md ops listed).contains i)) = true) (hy : YieldsIf P ops S oi v a) (hS : S w)
    (h : wpAnyH P md ops (Exit.then K fun _ _ _ => False) S fuel (listed.setIfInBounds i true) (a.put oi.dst v) w) : wpAnyH P md ops (Exit.then K fun _ _ _ => False) S (fuel + 1) listed a w := by
  rw [Bool.and_eq_true, Bool.and_eq_true] at hd
  exact takeL hi hd.1 hd.2.1 hd.2.2 (fun _ _ _ h => h.elim) hy hS h
theorem row_texts {w : World} {base : Nat} {v : Value} {l : List ByteArray} (h : w.ownsRow base 9 1 v l.length (txs l)) : ∃ A c, v = .slice A l.length c ∧ TextsAt w A l := by
  have h' := h
  rcases h.2 with ⟨e1, e2⟩ | ⟨g, cap, cur, e1, _⟩
  · exact ⟨none, 0, by rw [e1, e2], fun k hk => by omega⟩
  · subst e1
    exact ⟨_, _, rfl, texts_of_row h'⟩
theorem two_lines {W : World} {b : Nat} {A0 A1 : Option Addr} {L0 L1 : List Int} {k0 k1 : Nat} (h : W.heap[b]? = some (.cells #[.int .i64 0, .slice A0 L0.length k0, .int .i64 0, .slice A1 L1.length k1] 113 (0, 0))) (h0 : IntsAt W A0 L0) (h1 : IntsAt W A1 L1) : LinesAt W (some ⟨b, 0, none⟩) [⟨0, A0, k0, L0⟩, ⟨0, A1, k1, L1⟩] := fun k hk => by
  have hlt := heap_lt h
  match k, hk with
  | 0, _ => exact ⟨_, rfl, hlt, ⟨cell_of_row W b 0 _ _ (0, 0) h, cell_of_row W b 1 _ _ (0, 0) h⟩, h0⟩
  | 1, _ => exact ⟨_, rfl, hlt, ⟨cell_of_row W b 2 _ _ (0, 0) h, cell_of_row W b 3 _ _ (0, 0) h⟩, h1⟩
  | k + 2, h => exact absurd (show k + 2 < 2 from h) (by omega)
theorem two_bools {W : World} {b : Nat} (h : W.heap[b]? = some (.cells #[.bool true, .bool false] 4 (0, 0))) : BoolsAt W (some ⟨b, 0, none⟩) [true, false] := fun k hk => by
  have hlt := heap_lt h
  match k, hk with
  | 0, _ => exact ⟨_, rfl, hlt, cell_of_row W b 0 _ _ (0, 0) h⟩
  | 1, _ => exact ⟨_, rfl, hlt, cell_of_row W b 1 _ _ (0, 0) h⟩
  | k + 2, h => exact absurd (show k + 2 < 2 from h) (by omega)
theorem two_okL {A0 A1 : Option Addr} {L0 L1 : List Int} {k0 k1 : Nat} (h0 : L0.length ≤ 31) (h1 : L1.length ≤ 30) (c0 : L0.length ≤ k0) (c1 : L1.length ≤ k1) : OkL [⟨0, A0, k0, L0⟩, ⟨0, A1, k1, L1⟩] := by
  refine ⟨show 2 ≤ maxLen by decide, fun k hk => ?_⟩
  match k, hk with
  | 0, _ => exact ⟨by show L0.length ≤ maxLen; unfold maxLen; omega, c0⟩
  | 1, _ => exact ⟨by show L1.length ≤ maxLen; unfold maxLen; omega, c1⟩
  | k + 2, h => exact absurd (show k + 2 < 2 from h) (by omega)
/-- What is known ahead of reading back. -/
structure K14 (w : World) (f : FT) (a : Option Addr) (c : Nat) (r : RU) (s : ByteArray) (place : Int) (b7 : Nat) (A0 A1 : Option Addr) (k0 k1 : Nat) (L0 L1 : List Int) (wr : World) : Prop where
  kn : LTK w f a c r s place wr
  b : wr.heap[b7]? = some (.cells #[.slice A0 L0.length k0, .slice A1 L1.length k1] 105 (0, 0))
  i0 : IntsAt wr A0 L0
  i1 : IntsAt wr A1 L1
section
variable {w wr wr' : World} {f : FT} {a : Option Addr} {c : Nat} {r : RU} {s : ByteArray} {place : Int} {b7 : Nat} {A0 A1 : Option Addr} {k0 k1 : Nat} {L0 L1 : List Int}
theorem K14.below (h : K14 w f a c r s place b7 A0 A1 k0 k1 L0 L1 wr) (hb : Below wr.heap.size wr wr') : K14 w f a c r s place b7 A0 A1 k0 k1 L0 L1 wr' := ⟨h.kn.below hb, (hb.block _ (heap_lt h.b)).trans h.b, h.i0.below hb, h.i1.below hb⟩
theorem K14.alloc (h : K14 w f a c r s place b7 A0 A1 k0 k1 L0 L1 wr) (o : Obj) : K14 w f a c r s place b7 A0 A1 k0 k1 L0 L1 (wr.alloc o) := h.below ((Below.refl _ _).alloc (Nat.le_refl _) o)
theorem K14.drew (h : K14 w f a c r s place b7 A0 A1 k0 k1 L0 L1 wr) : K14 w f a c r s place b7 A0 A1 k0 k1 L0 L1 wr.drew := h.below (Below.refl _ _).drew
theorem K14.cells (h : K14 w f a c r s place b7 A0 A1 k0 k1 L0 L1 wr) : wr.cell? ⟨w.heap.size, 0, none⟩ = some (.string f.name) ∧ wr.cell? ⟨w.heap.size, 1, none⟩ = some (.int .i64 f.body) ∧ wr.cell? ⟨w.heap.size, 2, none⟩ = some (.slice a f.sorts.length c) ∧ wr.cell? ⟨b7, 0, none⟩ = some (.slice A0 L0.length k0) ∧ wr.cell? ⟨b7, 1, none⟩ = some (.slice A1 L1.length k1) :=
  ⟨h.kn.fr.fc.1, h.kn.fr.fc.2.1, h.kn.fr.fc.2.2, cell_of_row wr _ 0 _ _ (0, 0) h.b, cell_of_row wr _ 1 _ _ (0, 0) h.b⟩
end
set_option maxRecDepth 100000 in
set_option maxHeartbeats 8000000 in
theorem parts_walk (f : FT) (a : Option Addr) (c : Nat) (r : RU) (s : ByteArray) (place : Int) (w : World) (hF : FIn w f a c) (hR : r.at_ w) (hT : TabOk w) (hc : capR r) (hs : s.size ≤ maxLen) :
    Calls Tryz.prog 13 #[.agg #[.string f.name, .int .i64 f.body, .slice a f.sorts.length c], .agg r.cells, .agg #[.string s, .int .i64 place]] w fun e w' => e = .returned (.bool true) ∧ Below w.heap.size w w' := by
  have hK0 : LTK w f a c r s place _ := LTK.start
  have HF := Lib.hid (fun W (h : FRK w f a c r W) => hF.below h.low)
  have HR := Lib.hid (fun W (h : FRK w f a c r W) => hR.below h.low)
  have HT := Lib.hid (fun W (h : FRK w f a c r W) => hT.below h.low hT.1)
  have hz : SizesOk r.ps.l ∧ SizesOk r.es.l ∧ SizesOk r.bs.l := ⟨hR.1.2.2, hR.2.1.2.2, hR.2.2.2.2⟩
  have HSR := Lib.hid (fun W (h : r.at_ W) => Short_any r W h)
  have HCP0 := Lib.hid (fun W (h : r.at_ W) h1 h2 h3 => copyRules_any r W h hc h1 h2 h3)
  have hcap := hF.nil
  unfold RU.cells at *
  clear hF hR hT hc
  go_enter Tryz.func13, Tryz.ntmps13
  go_wp2_with fail
  refine (awake_any _ (HT.out _ hK0.fr)).mono ?_
  rintro e w2 ⟨rfl, hb2⟩
  have hK2 := hK0.below hb2
  clear hK0 hb2
  obtain ⟨c0, c1, c2⟩ := hK2.fr.fc
  go_wp2_with fail
  refine (few2_any f a c _ (HF.out _ hK2.fr).at_.ok (HF.out _ hK2.fr).at_.at_).mono ?_
  rintro e w3 ⟨rfl, hb3⟩
  have hK3 := hK2.below hb3
  clear hK2 hb3 c0 c1 c2
  cases hfew : few2B f
  · have hlow := hK3.fr.low
    go_wp2
    go_ret
    exact ⟨rfl, hlow⟩
  obtain ⟨d0, d1, d2, d3, d4⟩ := hK3.fr.rc
  go_wp2_with fail
  refine (HSR.out _ (HR.out _ hK3.fr)).mono ?_
  rintro e w4 ⟨rfl, hb4⟩
  have hK4 := hK3.below hb4
  clear hK3 hb4 d0 d1 d2 d3 d4
  cases hsh : shortR r
  · have hlow := hK4.fr.low
    go_wp2
    go_ret
    exact ⟨rfl, hlow⟩
  obtain ⟨s0, s1⟩ := hK4.tc
  by_cases h40 : 40 < s.size
  · have hlow := hK4.fr.low
    have g1 : decide ((40 : Int) < (s.size : Int)) = true := decide_eq_true (by omega)
    have i1 : (40 : Int) < (s.size : Int) := by omega
    go_wp2
    go_ret
    exact ⟨rfl, hlow⟩
  have g1 : decide ((40 : Int) < (s.size : Int)) = false := decide_eq_false (by omega)
  have i1 : ¬ (40 : Int) < (s.size : Int) := by omega
  obtain ⟨hSm, hl1, hl2, hl3⟩ := small_short hsh
  have hn122 := few2_len hfew
  have hl' : r.ps.l.length ≤ 1000 ∧ r.es.l.length ≤ 1000 ∧ r.bs.l.length ≤ 1000 := ⟨by omega, by omega, by omega⟩
  have HCP := Lib.hid (fun W (h : r.at_ W) => HCP0.out W h hl'.1 hl'.2.1 hl'.2.2)
  have HCF := Lib.hid (fun W (h : FRK w f a c r W) => copyFount_any f a c W (HF.out W h).at_ (by omega) hcap)
  have HWE := Lib.hid (fun W (h : FRK w f a c r W) => wordErrF_any f a c r s W (HF.out W h) (HR.out W h) hSm hs)
  have HAT := Lib.hid (fun W (r2 : RU) (h1 : SameR r r2) B (h2 : OwnR W B r2) => own_at h1 h2 hz hl')
  have HPA := Lib.hid (fun W (r2 : RU) (g k : Nat) (h1 : FAt W (some ⟨g, 0, none⟩) f) (h2 : r2.at_ W) (h3 : SameR r r2) => (show Calls Tryz.prog 68 #[.agg #[.string f.name, .int .i64 f.body, .slice (some ⟨g, 0, none⟩) f.sorts.length k], .agg r2.cells, .agg #[.string s, .int .i64 place]] W (PAns W (partErr2 f r s place)) by
    have h := parted_any f (some ⟨g, 0, none⟩) k r2 s place W h1 h2 hs
    rw [partErr2_same h3] at h
    exact h))
  have HRP := Lib.hid (fun W (h : FRK w f a c r W) (h1 : (checkF f).2 = 0) (h2 : (checkR r).2 = 0) (h3 : wordErr s = 0) => refParted_any f a c r s place W (HF.out W h).at_.at_ (HR.out W h) hSm h1 h2 h3)
  have HRB := Lib.hid (fun W (g k : Nat) (h1 : FAt W (some ⟨g, 0, none⟩) f) A L C D Bs G h2 h3 h4 h5 h6 => readBack_any f (some ⟨g, 0, none⟩) k A L C D Bs G W h1 h2 h3 h4 h5 h6)
  obtain ⟨SE, hSE⟩ : ∃ SE, SE = setErrW f r s := ⟨_, rfl⟩
  unfold RU.cells at HCP HWE HPA HRP
  rw [← hSE] at HWE
  have HSE := Lib.hid hSE
  have hlen : (partErr2 f r s place).2.1.length ≤ 31 ∧ (partErr2 f r s place).2.2.length ≤ 30 := by
    unfold partErr2
    by_cases h0 : setErrW f r s = 0
    · rw [if_neg (fun h => h h0)]
      obtain ⟨h1, h2, h3⟩ := setErrW_ok h0
      exact part_lens h1 h2 (word_size h3).2
    · rw [if_pos h0]; exact ⟨Nat.zero_le _, Nat.zero_le _⟩
  obtain ⟨X, hX⟩ : ∃ X, X = partErr2 f r s place := ⟨_, rfl⟩
  rw [← hX] at HPA hlen
  have HX := Lib.hid hX
  obtain ⟨hlen0, hlen1⟩ := hlen
  clear hfew hsh HSR HCP0 HT hSE hX hSm hl1 hl2 hl3 hn122 hl' hz hcap
  go_wp2_with fail
  go_cut [7, 8] from 30 to 38 (fun v7 v8 wx => ∃ b7 A0 k0 A1 k1, v7 = .pointer (some ⟨b7, 0, none⟩) ∧ v8 = .int .i64 X.1 ∧ w.heap.size + 3 ≤ b7 ∧ wx.heap[b7]? = some (.cells #[.slice A0 X.2.1.length k0, .slice A1 X.2.2.length k1] 105 (0, 0)) ∧ IRow wx w.heap.size (.slice A0 X.2.1.length k0) X.2.1 ∧ IRow wx w.heap.size (.slice A1 X.2.2.length k1) X.2.2 ∧ LTK w f a c r s place wx)
  case first =>
    rename_i J9 K1 hR9 hM9
    refine Code.wp_mono (Q := Exit.then K1 (fun _ _ _ => False)) (fun e a w h => by cases e <;> first | exact h | exact h.elim) ?_
    refine wp_region_held (S := fun w' => w'.cell? ⟨w.heap.size, 0, none⟩ = some (.string f.name) ∧ w'.cell? ⟨w.heap.size, 1, none⟩ = some (.int .i64 f.body) ∧ w'.cell? ⟨w.heap.size, 2, none⟩ = some (.slice a f.sorts.length c) ∧ w'.cell? ⟨w.heap.size + 1, 0, none⟩ = some (.slice r.ps.a r.ps.l.length r.ps.c) ∧ w'.cell? ⟨w.heap.size + 1, 1, none⟩ = some (.slice r.es.a r.es.l.length r.es.c) ∧ w'.cell? ⟨w.heap.size + 1, 2, none⟩ = some (.slice r.bs.a r.bs.l.length r.bs.c) ∧ w'.cell? ⟨w.heap.size + 1, 3, none⟩ = some (.int .i64 r.left) ∧ w'.cell? ⟨w.heap.size + 1, 4, none⟩ = some (.int .i64 r.right) ∧ w'.cell? ⟨w.heap.size + 2, 0, none⟩ = some (.string s) ∧ w'.cell? ⟨w.heap.size + 2, 1, none⟩ = some (.int .i64 place)) (by kernel_rfl) ?_
    change wpAnyH _ _ _ _ _ _ _ _ w4.drew
    have hKD := hK4.drew
    have hS := hKD.cells
    clear s0 s1 hK4
    refine takeU (i := 0) (v := .agg #[.string f.name, .int .i64 f.body, .slice a f.sorts.length c]) rfl (by kernel_rfl) (Or.inl ⟨by rfl, fun V9 h9 => by dsimp only at h9; go_simp⟩) hS ?_
    refine takeU (i := 2) (v := .agg #[.slice r.ps.a r.ps.l.length r.ps.c, .slice r.es.a r.es.l.length r.es.c, .slice r.bs.a r.bs.l.length r.bs.c, .int .i64 r.left, .int .i64 r.right]) rfl (by kernel_rfl) (Or.inl ⟨by rfl, fun V9 h9 => by dsimp only at h9; go_simp⟩) hS ?_
    refine takeU (i := 4) (v := .agg #[.string s, .int .i64 place]) rfl (by kernel_rfl) (Or.inl ⟨by rfl, fun V9 h9 => by dsimp only at h9; go_simp⟩) hS ?_
    try simp only [Act.put, List.setIfInBounds_toArray, List.set_cons_zero, List.set_cons_succ]
    refine wpAnyH_ready (rs := [1,9]) (by kernel_rfl) (by simp) (consL rfl (fun K9 hK9 => ?_) (consL rfl (fun K9 hK9 => ?_) AllReadyH.nil))
    · go_simp
      refine (HCF.out _ hKD.fr).mono ?_
      rintro e w7 ⟨g7, cp7, rfl, hk7, hF7, hb7d⟩
      have hK7 := hKD.below hb7d
      refine hK9.out _ _ hK7.cells (fun hS => ?_)
      clear hK9 K9
      refine wpAnyH_ready (rs := [3,9]) (by kernel_rfl) (by simp) (consL rfl (fun K9 hK9 => ?_) (consL rfl (fun K9 hK9 => ?_) AllReadyH.nil))
      · go_simp
        refine (HCP.out _ (HR.out _ hK7.fr)).mono ?_
        rintro e w8 ⟨r8, rfl, hS8, hO8, hb8⟩
        have hK8 := hK7.below hb8
        have hF8 := hF7.below hb8
        have hR8 := HAT.out _ _ hS8 _ hO8
        refine hK9.out _ _ hK8.cells (fun hS => ?_)
        clear hK9 K9
        refine wpAnyH_ready (rs := [5,9]) (by kernel_rfl) (by simp) (consL rfl (fun K9 hK9 => ?_) (consL rfl (fun K9 hK9 => ?_) AllReadyH.nil))
        · go_simp
          refine (HPA.out _ r8 g7 cp7 hF8 hR8 hS8).mono ?_
          rintro e wA ⟨hbA, A0, k0, A1, k1, rfl, hI0, hI1⟩
          have hKA := hK8.below hbA
          refine hK9.out _ _ hKA.cells (fun hS => ?_)
          clear hK9 K9
          try simp only [Act.put, List.setIfInBounds_toArray, List.set_cons_zero, List.set_cons_succ]
          refine takeU (i := 6) (v := .tuple #[.agg #[.slice A0 X.2.1.length k0, .slice A1 X.2.2.length k1], .int .i64 X.1]) rfl (by kernel_rfl) (Or.inl ⟨by rfl, fun V9 h9 => by dsimp only at h9; go_simp⟩) hS ?_
          refine takeU (i := 7) (v := .agg #[.slice A0 X.2.1.length k0, .slice A1 X.2.2.length k1]) rfl (by kernel_rfl) (Or.inl ⟨by rfl, fun V9 h9 => by dsimp only at h9; go_simp⟩) hS ?_
          refine takeU (i := 8) (v := .int .i64 X.1) rfl (by kernel_rfl) (Or.inl ⟨by rfl, fun V9 h9 => by dsimp only at h9; go_simp⟩) hS ?_
          try simp only [Act.put, List.setIfInBounds_toArray, List.set_cons_zero, List.set_cons_succ]
          refine wpAnyH_ready (rs := [9]) (by kernel_rfl) (by simp) (consL rfl (fun K9 hK9 => ?_) AllReadyH.nil)
          go_simp
          have hKL := hKA.alloc Z2
          refine hK9.out _ _ hKL.cells (fun hS => ?_)
          clear hK9 K9
          refine wpAnyH_ready (rs := [10]) (by kernel_rfl) (by simp) (consL rfl (fun K9 hK9 => ?_) AllReadyH.nil)
          go_simp
          have hKM := hKA.alloc (.cells #[.slice A0 X.2.1.length k0, .slice A1 X.2.2.length k1] 105)
          refine hK9.out _ _ hKM.cells (fun hS => ?_)
          clear hK9 K9
          try simp only [Act.put, List.setIfInBounds_toArray, List.set_cons_zero, List.set_cons_succ]
          refine takeU (i := 11) (v := .int .i64 X.1) rfl (by kernel_rfl) (Or.inl ⟨by rfl, fun V9 h9 => by dsimp only at h9; go_simp⟩) hS ?_
          try simp only [Act.put, List.setIfInBounds_toArray, List.set_cons_zero, List.set_cons_succ]
          refine wpAnyH_done (by kernel_rfl) ?_ _
          refine hM9 _ _ ?_
          go_meet
          exact ⟨wA.heap.size, A0, k0, A1, k1, rfl, rfl, hKA.lt, heap_new wA _, (hI0.alloc _).mono hK8.fr.low.size, (hI1.alloc _).mono hK8.fr.low.size, hKM⟩
        · go_simp
          have hKL := hK8.alloc Z2
          have hZ : (w8.alloc Z2).heap[w8.heap.size]? = some Z2 := heap_new w8 Z2
          have hge := hK8.lt
          have hF8 := hF8.below (ba Z2)
          have hR8 := hR8.below (ba Z2)
          refine hK9.out _ _ hKL.cells (fun hS => ?_)
          clear hK9 K9
          refine wpAnyH_ready (rs := [5]) (by kernel_rfl) (by simp) (consL rfl (fun K9 hK9 => ?_) AllReadyH.nil)
          go_simp
          have hzl := heap_lt hZ
          have hPl := hKL.fr.low.size
          refine (HPA.out _ r8 g7 cp7 hF8 hR8 hS8).mono ?_
          rintro e wA ⟨hbA, A0, k0, A1, k1, rfl, hI0, hI1⟩
          have hKA := hKL.below hbA
          have hZ := (hbA.block _ (heap_lt hZ)).trans hZ
          refine hK9.out _ _ hKA.cells (fun hS => ?_)
          clear hK9 K9
          try simp only [Act.put, List.setIfInBounds_toArray, List.set_cons_zero, List.set_cons_succ]
          refine takeU (i := 6) (v := .tuple #[.agg #[.slice A0 X.2.1.length k0, .slice A1 X.2.2.length k1], .int .i64 X.1]) rfl (by kernel_rfl) (Or.inl ⟨by rfl, fun V9 h9 => by dsimp only at h9; go_simp⟩) hS ?_
          refine takeU (i := 7) (v := .agg #[.slice A0 X.2.1.length k0, .slice A1 X.2.2.length k1]) rfl (by kernel_rfl) (Or.inl ⟨by rfl, fun V9 h9 => by dsimp only at h9; go_simp⟩) hS ?_
          refine takeU (i := 8) (v := .int .i64 X.1) rfl (by kernel_rfl) (Or.inl ⟨by rfl, fun V9 h9 => by dsimp only at h9; go_simp⟩) hS ?_
          try simp only [Act.put, List.setIfInBounds_toArray, List.set_cons_zero, List.set_cons_succ]
          have z0 : wA.cell? ⟨w8.heap.size, 0, none⟩ = some (.slice none 0 0) := cell_of_row _ _ 0 _ _ (0, 0) hZ
          have z1 : wA.cell? ⟨w8.heap.size, 1, none⟩ = some (.slice none 0 0) := cell_of_row _ _ 1 _ _ (0, 0) hZ
          have zf := fun j => (show wA.frozen? ⟨w8.heap.size, j, none⟩ = false by simp [World.frozen?, show wA.heap[w8.heap.size]? = some Z2 from hZ])
          have z2 := pat_set (pat_set (j := 0) (u := .slice A0 X.2.1.length k0) hZ) 1 (.slice A1 X.2.2.length k1)
          have hKM := (hKA.set (p := ⟨w8.heap.size, 0, none⟩) hge (.slice A0 X.2.1.length k0)).set (p := ⟨w8.heap.size, 1, none⟩) hge (.slice A1 X.2.2.length k1)
          have hI0 := ((hI0.set (p := ⟨w8.heap.size, 0, none⟩) hzl (.slice A0 X.2.1.length k0)).set (p := ⟨w8.heap.size, 1, none⟩) hzl (.slice A1 X.2.2.length k1)).mono hPl
          have hI1 := ((hI1.set (p := ⟨w8.heap.size, 0, none⟩) hzl (.slice A0 X.2.1.length k0)).set (p := ⟨w8.heap.size, 1, none⟩) hzl (.slice A1 X.2.2.length k1)).mono hPl
          refine wpAnyH_ready (rs := [10]) (by kernel_rfl) (by simp) (consL rfl (fun K9 hK9 => ?_) AllReadyH.nil)
          go_simp
          refine hK9.out _ _ hKM.cells (fun hS => ?_)
          clear hK9 K9
          try simp only [Act.put, List.setIfInBounds_toArray, List.set_cons_zero, List.set_cons_succ]
          refine takeU (i := 11) (v := .int .i64 X.1) rfl (by kernel_rfl) (Or.inl ⟨by rfl, fun V9 h9 => by dsimp only at h9; go_simp⟩) hS ?_
          try simp only [Act.put, List.setIfInBounds_toArray, List.set_cons_zero, List.set_cons_succ]
          refine wpAnyH_done (by kernel_rfl) ?_ _
          refine hM9 _ _ ?_
          go_meet
          exact ⟨_, A0, k0, A1, k1, rfl, rfl, hge, z2, hI0, hI1, hKM⟩
      · go_simp
        have hKL := hK7.alloc Z2
        have hZ : (w7.alloc Z2).heap[w7.heap.size]? = some Z2 := heap_new w7 Z2
        have hge := hK7.lt
        have hF7 := hF7.below (ba Z2)
        refine hK9.out _ _ hKL.cells (fun hS => ?_)
        clear hK9 K9
        refine wpAnyH_ready (rs := [3]) (by kernel_rfl) (by simp) (consL rfl (fun K9 hK9 => ?_) AllReadyH.nil)
        go_simp
        refine (HCP.out _ (HR.out _ hKL.fr)).mono ?_
        rintro e w8 ⟨r8, rfl, hS8, hO8, hb8⟩
        have hK8 := hKL.below hb8
        have hF8 := hF7.below hb8
        have hR8 := HAT.out _ _ hS8 _ hO8
        have hZ := (hb8.block _ (heap_lt hZ)).trans hZ
        refine hK9.out _ _ hK8.cells (fun hS => ?_)
        clear hK9 K9
        refine wpAnyH_ready (rs := [5]) (by kernel_rfl) (by simp) (consL rfl (fun K9 hK9 => ?_) AllReadyH.nil)
        go_simp
        have hzl := heap_lt hZ
        have hPl := hK8.fr.low.size
        refine (HPA.out _ r8 g7 cp7 hF8 hR8 hS8).mono ?_
        rintro e wA ⟨hbA, A0, k0, A1, k1, rfl, hI0, hI1⟩
        have hKA := hK8.below hbA
        have hZ := (hbA.block _ (heap_lt hZ)).trans hZ
        refine hK9.out _ _ hKA.cells (fun hS => ?_)
        clear hK9 K9
        try simp only [Act.put, List.setIfInBounds_toArray, List.set_cons_zero, List.set_cons_succ]
        refine takeU (i := 6) (v := .tuple #[.agg #[.slice A0 X.2.1.length k0, .slice A1 X.2.2.length k1], .int .i64 X.1]) rfl (by kernel_rfl) (Or.inl ⟨by rfl, fun V9 h9 => by dsimp only at h9; go_simp⟩) hS ?_
        refine takeU (i := 7) (v := .agg #[.slice A0 X.2.1.length k0, .slice A1 X.2.2.length k1]) rfl (by kernel_rfl) (Or.inl ⟨by rfl, fun V9 h9 => by dsimp only at h9; go_simp⟩) hS ?_
        refine takeU (i := 8) (v := .int .i64 X.1) rfl (by kernel_rfl) (Or.inl ⟨by rfl, fun V9 h9 => by dsimp only at h9; go_simp⟩) hS ?_
        try simp only [Act.put, List.setIfInBounds_toArray, List.set_cons_zero, List.set_cons_succ]
        have z0 : wA.cell? ⟨w7.heap.size, 0, none⟩ = some (.slice none 0 0) := cell_of_row _ _ 0 _ _ (0, 0) hZ
        have z1 : wA.cell? ⟨w7.heap.size, 1, none⟩ = some (.slice none 0 0) := cell_of_row _ _ 1 _ _ (0, 0) hZ
        have zf := fun j => (show wA.frozen? ⟨w7.heap.size, j, none⟩ = false by simp [World.frozen?, show wA.heap[w7.heap.size]? = some Z2 from hZ])
        have z2 := pat_set (pat_set (j := 0) (u := .slice A0 X.2.1.length k0) hZ) 1 (.slice A1 X.2.2.length k1)
        have hKM := (hKA.set (p := ⟨w7.heap.size, 0, none⟩) hge (.slice A0 X.2.1.length k0)).set (p := ⟨w7.heap.size, 1, none⟩) hge (.slice A1 X.2.2.length k1)
        have hI0 := ((hI0.set (p := ⟨w7.heap.size, 0, none⟩) hzl (.slice A0 X.2.1.length k0)).set (p := ⟨w7.heap.size, 1, none⟩) hzl (.slice A1 X.2.2.length k1)).mono hPl
        have hI1 := ((hI1.set (p := ⟨w7.heap.size, 0, none⟩) hzl (.slice A0 X.2.1.length k0)).set (p := ⟨w7.heap.size, 1, none⟩) hzl (.slice A1 X.2.2.length k1)).mono hPl
        refine wpAnyH_ready (rs := [10]) (by kernel_rfl) (by simp) (consL rfl (fun K9 hK9 => ?_) AllReadyH.nil)
        go_simp
        refine hK9.out _ _ hKM.cells (fun hS => ?_)
        clear hK9 K9
        try simp only [Act.put, List.setIfInBounds_toArray, List.set_cons_zero, List.set_cons_succ]
        refine takeU (i := 11) (v := .int .i64 X.1) rfl (by kernel_rfl) (Or.inl ⟨by rfl, fun V9 h9 => by dsimp only at h9; go_simp⟩) hS ?_
        try simp only [Act.put, List.setIfInBounds_toArray, List.set_cons_zero, List.set_cons_succ]
        refine wpAnyH_done (by kernel_rfl) ?_ _
        refine hM9 _ _ ?_
        go_meet
        exact ⟨_, A0, k0, A1, k1, rfl, rfl, hge, z2, hI0, hI1, hKM⟩
    · go_simp
      have hKL := hKD.alloc Z2
      have hZ : (w4.drew.alloc Z2).heap[w4.heap.size]? = some Z2 := heap_new w4.drew Z2
      have hge := hKD.lt
      refine hK9.out _ _ hKL.cells (fun hS => ?_)
      clear hK9 K9
      refine wpAnyH_ready (rs := [1]) (by kernel_rfl) (by simp) (consL rfl (fun K9 hK9 => ?_) AllReadyH.nil)
      go_simp
      refine (HCF.out _ hKL.fr).mono ?_
      rintro e w7 ⟨g7, cp7, rfl, hk7, hF7, hb7d⟩
      have hK7 := hKL.below hb7d
      have hZ := (hb7d.block _ (heap_lt hZ)).trans hZ
      refine hK9.out _ _ hK7.cells (fun hS => ?_)
      clear hK9 K9
      refine wpAnyH_ready (rs := [3]) (by kernel_rfl) (by simp) (consL rfl (fun K9 hK9 => ?_) AllReadyH.nil)
      go_simp
      refine (HCP.out _ (HR.out _ hK7.fr)).mono ?_
      rintro e w8 ⟨r8, rfl, hS8, hO8, hb8⟩
      have hK8 := hK7.below hb8
      have hF8 := hF7.below hb8
      have hR8 := HAT.out _ _ hS8 _ hO8
      have hZ := (hb8.block _ (heap_lt hZ)).trans hZ
      refine hK9.out _ _ hK8.cells (fun hS => ?_)
      clear hK9 K9
      refine wpAnyH_ready (rs := [5]) (by kernel_rfl) (by simp) (consL rfl (fun K9 hK9 => ?_) AllReadyH.nil)
      go_simp
      have hzl := heap_lt hZ
      have hPl := hK8.fr.low.size
      refine (HPA.out _ r8 g7 cp7 hF8 hR8 hS8).mono ?_
      rintro e wA ⟨hbA, A0, k0, A1, k1, rfl, hI0, hI1⟩
      have hKA := hK8.below hbA
      have hZ := (hbA.block _ (heap_lt hZ)).trans hZ
      refine hK9.out _ _ hKA.cells (fun hS => ?_)
      clear hK9 K9
      try simp only [Act.put, List.setIfInBounds_toArray, List.set_cons_zero, List.set_cons_succ]
      refine takeU (i := 6) (v := .tuple #[.agg #[.slice A0 X.2.1.length k0, .slice A1 X.2.2.length k1], .int .i64 X.1]) rfl (by kernel_rfl) (Or.inl ⟨by rfl, fun V9 h9 => by dsimp only at h9; go_simp⟩) hS ?_
      refine takeU (i := 7) (v := .agg #[.slice A0 X.2.1.length k0, .slice A1 X.2.2.length k1]) rfl (by kernel_rfl) (Or.inl ⟨by rfl, fun V9 h9 => by dsimp only at h9; go_simp⟩) hS ?_
      refine takeU (i := 8) (v := .int .i64 X.1) rfl (by kernel_rfl) (Or.inl ⟨by rfl, fun V9 h9 => by dsimp only at h9; go_simp⟩) hS ?_
      try simp only [Act.put, List.setIfInBounds_toArray, List.set_cons_zero, List.set_cons_succ]
      have z0 : wA.cell? ⟨w4.heap.size, 0, none⟩ = some (.slice none 0 0) := cell_of_row _ _ 0 _ _ (0, 0) hZ
      have z1 : wA.cell? ⟨w4.heap.size, 1, none⟩ = some (.slice none 0 0) := cell_of_row _ _ 1 _ _ (0, 0) hZ
      have zf := fun j => (show wA.frozen? ⟨w4.heap.size, j, none⟩ = false by simp [World.frozen?, show wA.heap[w4.heap.size]? = some Z2 from hZ])
      have z2 := pat_set (pat_set (j := 0) (u := .slice A0 X.2.1.length k0) hZ) 1 (.slice A1 X.2.2.length k1)
      have hKM := (hKA.set (p := ⟨w4.heap.size, 0, none⟩) hge (.slice A0 X.2.1.length k0)).set (p := ⟨w4.heap.size, 1, none⟩) hge (.slice A1 X.2.2.length k1)
      have hI0 := ((hI0.set (p := ⟨w4.heap.size, 0, none⟩) hzl (.slice A0 X.2.1.length k0)).set (p := ⟨w4.heap.size, 1, none⟩) hzl (.slice A1 X.2.2.length k1)).mono hPl
      have hI1 := ((hI1.set (p := ⟨w4.heap.size, 0, none⟩) hzl (.slice A0 X.2.1.length k0)).set (p := ⟨w4.heap.size, 1, none⟩) hzl (.slice A1 X.2.2.length k1)).mono hPl
      refine wpAnyH_ready (rs := [10]) (by kernel_rfl) (by simp) (consL rfl (fun K9 hK9 => ?_) AllReadyH.nil)
      go_simp
      refine hK9.out _ _ hKM.cells (fun hS => ?_)
      clear hK9 K9
      try simp only [Act.put, List.setIfInBounds_toArray, List.set_cons_zero, List.set_cons_succ]
      refine takeU (i := 11) (v := .int .i64 X.1) rfl (by kernel_rfl) (Or.inl ⟨by rfl, fun V9 h9 => by dsimp only at h9; go_simp⟩) hS ?_
      try simp only [Act.put, List.setIfInBounds_toArray, List.set_cons_zero, List.set_cons_succ]
      refine wpAnyH_done (by kernel_rfl) ?_ _
      refine hM9 _ _ ?_
      go_meet
      exact ⟨_, A0, k0, A1, k1, rfl, rfl, hge, z2, hI0, hI1, hKM⟩
  case rest =>
    obtain ⟨b7, A0, k0, A1, k1, rfl, rfl, hge, hb7, hI0, hI1, hKc⟩ := hcut
    have hc0 : X.2.1.length ≤ k0 := by
      obtain ⟨a9, c9, e9, -, h9, -⟩ := hI0.shape
      injection e9 with _ _ e9
      rw [e9]; exact h9
    have hc1 : X.2.2.length ≤ k1 := by
      obtain ⟨a9, c9, e9, -, h9, -⟩ := hI1.shape
      injection e9 with _ _ e9
      rw [e9]; exact h9
    have hKK : K14 w f a c r s place b7 A0 A1 k0 k1 X.2.1 X.2.2 wc := ⟨hKc, hb7, hI0.ints.2, hI1.ints.2⟩
    clear hb7 hI0 hI1 hKc s0 s1 hK4 HPA HCP
    obtain ⟨c0, c1, c2⟩ := hKK.kn.fr.fc
    obtain ⟨d0, d1, d2, d3, d4⟩ := hKK.kn.fr.rc
    obtain ⟨s0, s1⟩ := hKK.kn.tc
    go_wp2_with fail
    refine (HWE.out _ hKK.kn.fr).mono ?_
    rintro e w5 ⟨rfl, hb5⟩
    have hK5 := hKK.below hb5
    clear hKK hb5 c0 c1 c2 d0 d1 d2 d3 d4 s0 s1 HWE
    obtain ⟨-, -, -, p0, p1⟩ := hK5.cells
    by_cases hse : SE = 0
    case neg =>
      have hseb : (SE != 0) = true := by simpa using hse
      have hlow := hK5.kn.fr.low
      have hXe : X = (SE, [], []) := by rw [HX.out]; unfold partErr2; rw [if_pos (by rw [← HSE.out]; exact hse), ← HSE.out]
      clear HX hK5
      subst hXe
      go_wp2
      go_ret
      exact ⟨rfl, hlow⟩
    case pos =>
      have hseb : (SE != 0) = false := by rw [hse]; rfl
      have h0 : setErrW f r s = 0 := by rw [← HSE.out]; exact hse
      obtain ⟨hcf, hcr, hwe⟩ := setErrW_ok h0
      have hXe : X = partR f r s place := by rw [HX.out]; unfold partErr2; rw [if_neg (fun h => h h0)]
      have HRPb := Lib.hid (HRP.out w5 hK5.kn.fr hcf hcr hwe)
      rw [← hXe] at HRPb
      have HPR := Lib.hid (fun (h : X.1 = 0) => part_reads (place := place) hcf hcr (word_size hwe).2 (show (partR f r s place).1 = 0 by rw [← hXe]; exact h) A0 A1 k0 k1)
      rw [← hXe] at HPR
      obtain ⟨c0, c1, c2⟩ := hK5.kn.fr.fc
      obtain ⟨d0, d1, d2, d3, d4⟩ := hK5.kn.fr.rc
      obtain ⟨s0, s1⟩ := hK5.kn.tc
      have hm0 : X.2.1.length ≤ maxLen := by unfold maxLen; omega
      have hm1 : X.2.2.length ≤ maxLen := by unfold maxLen; omega
      clear hXe HX HSE h0 hse HRP hcf hcr hwe
      go_wp2_with fail
      refine HRPb.out.mono ?_
      rintro e w6 ⟨hb6, B0, m0, B1, m1, rfl, hJ0, hJ1⟩
      have hK6 := (hK5.below hb6).alloc (.cells #[.slice B0 X.2.1.length m0, .slice B1 X.2.2.length m1] 105)
      have hQ0 := hJ0.ints.2.alloc (.cells #[.slice B0 X.2.1.length m0, .slice B1 X.2.2.length m1] 105)
      have hQ1 := hJ1.ints.2.alloc (.cells #[.slice B0 X.2.1.length m0, .slice B1 X.2.2.length m1] 105)
      have hN := heap_new w6 (.cells #[.slice B0 X.2.1.length m0, .slice B1 X.2.2.length m1] 105)
      have HI0 := Lib.hid (fun W (h1 : IntsAt W A0 X.2.1) (h2 : IntsAt W B0 X.2.1) => (show Calls Tryz.prog 45 #[.slice A0 X.2.1.length k0, .slice B0 X.2.1.length m0] W (fun e w' => e = .returned (.bool true) ∧ Drew W w') by
        have h := ints_any A0 X.2.1 k0 B0 X.2.1 m0 W h1 h2 hm0 hm0
        rw [decide_eq_true rfl] at h
        exact h))
      have HI1 := Lib.hid (fun W (h1 : IntsAt W A1 X.2.2) (h2 : IntsAt W B1 X.2.2) => (show Calls Tryz.prog 45 #[.slice A1 X.2.2.length k1, .slice B1 X.2.2.length m1] W (fun e w' => e = .returned (.bool true) ∧ Drew W w') by
        have h := ints_any A1 X.2.2 k1 B1 X.2.2 m1 W h1 h2 hm1 hm1
        rw [decide_eq_true rfl] at h
        exact h))
      clear hK5 hb6 hJ0 hJ1 HRPb c0 c1 c2 d0 d1 d2 d3 d4 s0 s1 p0 p1
      obtain ⟨W7, hW7⟩ : ∃ W7, W7 = w6.alloc (.cells #[.slice B0 X.2.1.length m0, .slice B1 X.2.2.length m1] 105) := ⟨_, rfl⟩
      have HI0b := Lib.hid (HI0.out _ hK6.i0 hQ0)
      obtain ⟨-, -, -, p0, p1⟩ := hK6.cells
      have q0 := cell_of_row _ _ 0 _ _ (0, 0) hN
      have q1 := cell_of_row _ _ 1 _ _ (0, 0) hN
      have hkeep : ∀ (Wd : World), Drew W7 Wd → K14 w f a c r s place b7 A0 A1 k0 k1 X.2.1 X.2.2 Wd ∧ IntsAt Wd B1 X.2.2 ∧ Wd.cell? ⟨w6.heap.size, 1, none⟩ = some (.slice B1 X.2.2.length m1) := by
        rintro Wd ⟨n, rfl⟩
        rw [hW7]
        exact ⟨hK6.below (below_drewN (Below.refl _ _) n), hQ1, q1⟩
      have HKP := Lib.hid hkeep
      have HW7 := Lib.hid hW7
      clear hkeep hW7
      go_wp2_with fail
      refine HI0b.out.mono ?_
      rintro e w8 ⟨rfl, hd8⟩
      obtain ⟨hK8, hQ8, q18⟩ := HKP.out w8 (by rw [HW7.out]; exact hd8)
      clear hK6 hQ0 hQ1 hN p0 p1 q0 q1 HI0 HI0b HKP HW7 hd8
      obtain ⟨-, -, -, p0, p1⟩ := hK8.cells
      have HI1b := Lib.hid (HI1.out w8 hK8.i1 hQ8)
      go_wp2_with fail
      refine HI1b.out.mono ?_
      rintro e w9 ⟨rfl, hd9⟩
      have hK9 : K14 w f a c r s place b7 A0 A1 k0 k1 X.2.1 X.2.2 w9 := by
        obtain ⟨n, rfl⟩ := hd9
        exact hK8.below (below_drewN (Below.refl _ _) n)
      clear hK8 hQ8 q18 p0 p1 HI1 HI1b hd9
      by_cases hx0 : X.1 = 0
      case neg =>
        have hxb : (X.1 != 0) = true := by simpa using hx0
        have hlow := hK9.kn.fr.low
        go_wp2
        go_ret
        exact ⟨rfl, hlow⟩
      case pos =>
        have hxb : (X.1 != 0) = false := by rw [hx0]; rfl
        obtain ⟨hre, hrw⟩ := HPR.out hx0
        have HRB2 := Lib.hid (fun W (g k bL bB : Nat) (h1 : FAt W (some ⟨g, 0, none⟩) f) (hL : W.heap[bL]? = some (LO A0 A1 k0 k1 X.2.1 X.2.2)) (hB : W.heap[bB]? = some LB) (hK : K14 w f a c r s place b7 A0 A1 k0 k1 X.2.1 X.2.2 W) => (show Calls Tryz.prog 70 #[.agg #[.string f.name, .int .i64 f.body, .slice (some ⟨g, 0, none⟩) f.sorts.length k], .slice (some ⟨bL, 0, none⟩) 2 2, .slice (some ⟨bB, 0, none⟩) 2 2] W (fun e w' => ∃ A k', e = .returned (.tuple #[.slice A 1 k', .int .i64 0]) ∧ TextsAt w' A [s] ∧ Below W.heap.size W w') by
          have h := HRB.out W g k h1 (some ⟨bL, 0, none⟩) [⟨0, A0, k0, X.2.1⟩, ⟨0, A1, k1, X.2.2⟩] 2 (some ⟨bB, 0, none⟩) [true, false] 2 (two_lines hL hK.i0 hK.i1) (two_okL hlen0 hlen1 hc0 hc1) (Nat.le_refl 2) (two_bools hB) (show 2 ≤ maxLen by decide)
          refine Calls.mono h ?_
          rintro e w' ⟨hb, hp⟩
          rw [if_pos hre] at hp
          obtain ⟨v, rfl, hrow⟩ := hp
          rw [hrw] at hrow
          obtain ⟨A, k', rfl, hT⟩ := row_texts (l := [s]) hrow
          exact ⟨A, k', rfl, hT, hb⟩))
        clear hre hrw HPR HRB
        go_wp2_with fail
        go_cut [12, 13] from 87 to 100 (fun v12 v13 wx => ∃ A k', v12 = .slice A 1 k' ∧ v13 = .int .i64 0 ∧ TextsAt wx A [s] ∧ LTK w f a c r s place wx)
        case first =>
          rename_i J9 K1 hR9 hM9
          refine Code.wp_mono (Q := Exit.then K1 (fun _ _ _ => False)) (fun e a w h => by cases e <;> first | exact h | exact h.elim) ?_
          refine wp_region_held (S := fun w' => w'.cell? ⟨w.heap.size, 0, none⟩ = some (.string f.name) ∧ w'.cell? ⟨w.heap.size, 1, none⟩ = some (.int .i64 f.body) ∧ w'.cell? ⟨w.heap.size, 2, none⟩ = some (.slice a f.sorts.length c) ∧ w'.cell? ⟨b7, 0, none⟩ = some (.slice A0 X.2.1.length k0) ∧ w'.cell? ⟨b7, 1, none⟩ = some (.slice A1 X.2.2.length k1)) (by kernel_rfl) ?_
          change wpAnyH _ _ _ _ _ _ _ _ w9.drew
          have hKD := hK9.drew
          have hS := hKD.cells
          clear hK9
          refine takeU (i := 0) (v := .agg #[.string f.name, .int .i64 f.body, .slice a f.sorts.length c]) rfl (by kernel_rfl) (Or.inl ⟨by rfl, fun V9 h9 => by dsimp only at h9; go_simp⟩) hS ?_
          refine takeU (i := 2) (v := .pointer (some ⟨b7, 0, none⟩)) rfl (by kernel_rfl) (Or.inl ⟨by rfl, fun V9 h9 => by dsimp only at h9; go_simp⟩) hS ?_
          refine takeU (i := 3) (v := .slice A0 X.2.1.length k0) rfl (by kernel_rfl) (Or.inl ⟨by rfl, fun V9 h9 => by dsimp only at h9; go_simp⟩) hS ?_
          refine takeU (i := 4) (v := .agg #[.int .i64 0, .slice A0 X.2.1.length k0]) rfl (by kernel_rfl) (Or.inl ⟨by rfl, fun V9 h9 => by dsimp only at h9; go_simp⟩) hS ?_
          refine takeU (i := 5) (v := .pointer (some ⟨b7, 1, none⟩)) rfl (by kernel_rfl) (Or.inl ⟨by rfl, fun V9 h9 => by dsimp only at h9; go_simp⟩) hS ?_
          refine takeU (i := 6) (v := .slice A1 X.2.2.length k1) rfl (by kernel_rfl) (Or.inl ⟨by rfl, fun V9 h9 => by dsimp only at h9; go_simp⟩) hS ?_
          refine takeU (i := 7) (v := .agg #[.int .i64 0, .slice A1 X.2.2.length k1]) rfl (by kernel_rfl) (Or.inl ⟨by rfl, fun V9 h9 => by dsimp only at h9; go_simp⟩) hS ?_
          try simp only [Act.put, List.setIfInBounds_toArray, List.set_cons_zero, List.set_cons_succ]
          refine wpAnyH_ready (rs := [1,8,9]) (by kernel_rfl) (by simp) (consL rfl (fun K9 hK9 => ?_) (consL rfl (fun K9 hK9 => ?_) (consL rfl (fun K9 hK9 => ?_) AllReadyH.nil)))
          · go_simp
            refine (HCF.out _ hKD.kn.fr).mono ?_
            rintro e w7 ⟨g7, cp7, rfl, hk7, hF7, hb7d⟩
            have hK20 := hKD.below hb7d
            refine hK9.out _ _ hK20.cells (fun hS => ?_)
            clear hK9 K9
            refine wpAnyH_ready (rs := [8,9]) (by kernel_rfl) (by simp) (consL rfl (fun K9 hK9 => ?_) (consL rfl (fun K9 hK9 => ?_) AllReadyH.nil))
            · go_simp
              have hK21 := hK20.alloc (LO A0 A1 k0 k1 X.2.1 X.2.2)
              have hF7 := hF7.below (ba (LO A0 A1 k0 k1 X.2.1 X.2.2))
              have hLn : (w7.alloc (LO A0 A1 k0 k1 X.2.1 X.2.2)).heap[w7.heap.size]? = some (LO A0 A1 k0 k1 X.2.1 X.2.2) := heap_new (w7) (LO A0 A1 k0 k1 X.2.1 X.2.2)
              refine hK9.out _ _ hK21.cells (fun hS => ?_)
              clear hK9 K9
              refine wpAnyH_ready (rs := [9]) (by kernel_rfl) (by simp) (consL rfl (fun K9 hK9 => ?_) AllReadyH.nil)
              go_simp
              have hK22 := hK21.alloc LB
              have hF7 := hF7.below (ba LB)
              have hLn := heap_keep (o := LB) hLn
              have hBn : ((w7.alloc (LO A0 A1 k0 k1 X.2.1 X.2.2)).alloc LB).heap[w7.heap.size + 1]? = some LB := by have h := heap_new ((w7.alloc (LO A0 A1 k0 k1 X.2.1 X.2.2))) LB; rw [World.size_alloc] at h; exact h
              refine hK9.out _ _ hK22.cells (fun hS => ?_)
              clear hK9 K9
              refine wpAnyH_ready (rs := [10]) (by kernel_rfl) (by simp) (consL rfl (fun K9 hK9 => ?_) AllReadyH.nil)
              go_simp
              refine (HRB2.out _ g7 cp7 _ _ hF7 hLn hBn hK22).mono ?_
              rintro e wB ⟨A, k', rfl, hT, hbB⟩
              have hKB := hK22.below hbB
              refine hK9.out _ _ hKB.cells (fun hS => ?_)
              clear hK9 K9
              try simp only [Act.put, List.setIfInBounds_toArray, List.set_cons_zero, List.set_cons_succ]
              refine takeU (i := 11) (v := .tuple #[.slice A 1 k', .int .i64 0]) rfl (by kernel_rfl) (Or.inl ⟨by rfl, fun V9 h9 => by dsimp only at h9; go_simp⟩) hS ?_
              refine takeU (i := 12) (v := .slice A 1 k') rfl (by kernel_rfl) (Or.inl ⟨by rfl, fun V9 h9 => by dsimp only at h9; go_simp⟩) hS ?_
              refine takeU (i := 13) (v := .int .i64 0) rfl (by kernel_rfl) (Or.inl ⟨by rfl, fun V9 h9 => by dsimp only at h9; go_simp⟩) hS ?_
              refine takeU (i := 14) (v := .slice A 1 k') rfl (by kernel_rfl) (Or.inl ⟨by rfl, fun V9 h9 => by dsimp only at h9; go_simp⟩) hS ?_
              refine takeU (i := 15) (v := .int .i64 0) rfl (by kernel_rfl) (Or.inl ⟨by rfl, fun V9 h9 => by dsimp only at h9; go_simp⟩) hS ?_
              try simp only [Act.put, List.setIfInBounds_toArray, List.set_cons_zero, List.set_cons_succ]
              refine wpAnyH_done (by kernel_rfl) ?_ _
              refine hM9 _ _ ?_
              go_meet
              exact ⟨A, k', rfl, rfl, hT, hKB.kn⟩
            · go_simp
              have hK21 := hK20.alloc LB
              have hF7 := hF7.below (ba LB)
              have hBn : (w7.alloc LB).heap[w7.heap.size]? = some LB := heap_new (w7) LB
              refine hK9.out _ _ hK21.cells (fun hS => ?_)
              clear hK9 K9
              refine wpAnyH_ready (rs := [8]) (by kernel_rfl) (by simp) (consL rfl (fun K9 hK9 => ?_) AllReadyH.nil)
              go_simp
              have hK22 := hK21.alloc (LO A0 A1 k0 k1 X.2.1 X.2.2)
              have hF7 := hF7.below (ba (LO A0 A1 k0 k1 X.2.1 X.2.2))
              have hBn := heap_keep (o := (LO A0 A1 k0 k1 X.2.1 X.2.2)) hBn
              have hLn : ((w7.alloc LB).alloc (LO A0 A1 k0 k1 X.2.1 X.2.2)).heap[w7.heap.size + 1]? = some (LO A0 A1 k0 k1 X.2.1 X.2.2) := by have h := heap_new ((w7.alloc LB)) (LO A0 A1 k0 k1 X.2.1 X.2.2); rw [World.size_alloc] at h; exact h
              refine hK9.out _ _ hK22.cells (fun hS => ?_)
              clear hK9 K9
              refine wpAnyH_ready (rs := [10]) (by kernel_rfl) (by simp) (consL rfl (fun K9 hK9 => ?_) AllReadyH.nil)
              go_simp
              refine (HRB2.out _ g7 cp7 _ _ hF7 hLn hBn hK22).mono ?_
              rintro e wB ⟨A, k', rfl, hT, hbB⟩
              have hKB := hK22.below hbB
              refine hK9.out _ _ hKB.cells (fun hS => ?_)
              clear hK9 K9
              try simp only [Act.put, List.setIfInBounds_toArray, List.set_cons_zero, List.set_cons_succ]
              refine takeU (i := 11) (v := .tuple #[.slice A 1 k', .int .i64 0]) rfl (by kernel_rfl) (Or.inl ⟨by rfl, fun V9 h9 => by dsimp only at h9; go_simp⟩) hS ?_
              refine takeU (i := 12) (v := .slice A 1 k') rfl (by kernel_rfl) (Or.inl ⟨by rfl, fun V9 h9 => by dsimp only at h9; go_simp⟩) hS ?_
              refine takeU (i := 13) (v := .int .i64 0) rfl (by kernel_rfl) (Or.inl ⟨by rfl, fun V9 h9 => by dsimp only at h9; go_simp⟩) hS ?_
              refine takeU (i := 14) (v := .slice A 1 k') rfl (by kernel_rfl) (Or.inl ⟨by rfl, fun V9 h9 => by dsimp only at h9; go_simp⟩) hS ?_
              refine takeU (i := 15) (v := .int .i64 0) rfl (by kernel_rfl) (Or.inl ⟨by rfl, fun V9 h9 => by dsimp only at h9; go_simp⟩) hS ?_
              try simp only [Act.put, List.setIfInBounds_toArray, List.set_cons_zero, List.set_cons_succ]
              refine wpAnyH_done (by kernel_rfl) ?_ _
              refine hM9 _ _ ?_
              go_meet
              exact ⟨A, k', rfl, rfl, hT, hKB.kn⟩
          · go_simp
            have hK20 := hKD.alloc (LO A0 A1 k0 k1 X.2.1 X.2.2)
            have hLn : (w9.drew.alloc (LO A0 A1 k0 k1 X.2.1 X.2.2)).heap[w9.heap.size]? = some (LO A0 A1 k0 k1 X.2.1 X.2.2) := heap_new (w9.drew) (LO A0 A1 k0 k1 X.2.1 X.2.2)
            refine hK9.out _ _ hK20.cells (fun hS => ?_)
            clear hK9 K9
            refine wpAnyH_ready (rs := [1,9]) (by kernel_rfl) (by simp) (consL rfl (fun K9 hK9 => ?_) (consL rfl (fun K9 hK9 => ?_) AllReadyH.nil))
            · go_simp
              refine (HCF.out _ hK20.kn.fr).mono ?_
              rintro e w7 ⟨g7, cp7, rfl, hk7, hF7, hb7d⟩
              have hK21 := hK20.below hb7d
              have hLn := (hb7d.block _ (heap_lt hLn)).trans hLn
              refine hK9.out _ _ hK21.cells (fun hS => ?_)
              clear hK9 K9
              refine wpAnyH_ready (rs := [9]) (by kernel_rfl) (by simp) (consL rfl (fun K9 hK9 => ?_) AllReadyH.nil)
              go_simp
              have hK22 := hK21.alloc LB
              have hF7 := hF7.below (ba LB)
              have hLn := heap_keep (o := LB) hLn
              have hBn : (w7.alloc LB).heap[w7.heap.size]? = some LB := heap_new (w7) LB
              refine hK9.out _ _ hK22.cells (fun hS => ?_)
              clear hK9 K9
              refine wpAnyH_ready (rs := [10]) (by kernel_rfl) (by simp) (consL rfl (fun K9 hK9 => ?_) AllReadyH.nil)
              go_simp
              refine (HRB2.out _ g7 cp7 _ _ hF7 hLn hBn hK22).mono ?_
              rintro e wB ⟨A, k', rfl, hT, hbB⟩
              have hKB := hK22.below hbB
              refine hK9.out _ _ hKB.cells (fun hS => ?_)
              clear hK9 K9
              try simp only [Act.put, List.setIfInBounds_toArray, List.set_cons_zero, List.set_cons_succ]
              refine takeU (i := 11) (v := .tuple #[.slice A 1 k', .int .i64 0]) rfl (by kernel_rfl) (Or.inl ⟨by rfl, fun V9 h9 => by dsimp only at h9; go_simp⟩) hS ?_
              refine takeU (i := 12) (v := .slice A 1 k') rfl (by kernel_rfl) (Or.inl ⟨by rfl, fun V9 h9 => by dsimp only at h9; go_simp⟩) hS ?_
              refine takeU (i := 13) (v := .int .i64 0) rfl (by kernel_rfl) (Or.inl ⟨by rfl, fun V9 h9 => by dsimp only at h9; go_simp⟩) hS ?_
              refine takeU (i := 14) (v := .slice A 1 k') rfl (by kernel_rfl) (Or.inl ⟨by rfl, fun V9 h9 => by dsimp only at h9; go_simp⟩) hS ?_
              refine takeU (i := 15) (v := .int .i64 0) rfl (by kernel_rfl) (Or.inl ⟨by rfl, fun V9 h9 => by dsimp only at h9; go_simp⟩) hS ?_
              try simp only [Act.put, List.setIfInBounds_toArray, List.set_cons_zero, List.set_cons_succ]
              refine wpAnyH_done (by kernel_rfl) ?_ _
              refine hM9 _ _ ?_
              go_meet
              exact ⟨A, k', rfl, rfl, hT, hKB.kn⟩
            · go_simp
              have hK21 := hK20.alloc LB
              have hLn := heap_keep (o := LB) hLn
              have hBn : ((w9.drew.alloc (LO A0 A1 k0 k1 X.2.1 X.2.2)).alloc LB).heap[w9.heap.size + 1]? = some LB := by have h := heap_new ((w9.drew.alloc (LO A0 A1 k0 k1 X.2.1 X.2.2))) LB; rw [World.size_alloc] at h; exact h
              refine hK9.out _ _ hK21.cells (fun hS => ?_)
              clear hK9 K9
              refine wpAnyH_ready (rs := [1]) (by kernel_rfl) (by simp) (consL rfl (fun K9 hK9 => ?_) AllReadyH.nil)
              go_simp
              refine (HCF.out _ hK21.kn.fr).mono ?_
              rintro e w7 ⟨g7, cp7, rfl, hk7, hF7, hb7d⟩
              have hK22 := hK21.below hb7d
              have hLn := (hb7d.block _ (heap_lt hLn)).trans hLn
              have hBn := (hb7d.block _ (heap_lt hBn)).trans hBn
              refine hK9.out _ _ hK22.cells (fun hS => ?_)
              clear hK9 K9
              refine wpAnyH_ready (rs := [10]) (by kernel_rfl) (by simp) (consL rfl (fun K9 hK9 => ?_) AllReadyH.nil)
              go_simp
              refine (HRB2.out _ g7 cp7 _ _ hF7 hLn hBn hK22).mono ?_
              rintro e wB ⟨A, k', rfl, hT, hbB⟩
              have hKB := hK22.below hbB
              refine hK9.out _ _ hKB.cells (fun hS => ?_)
              clear hK9 K9
              try simp only [Act.put, List.setIfInBounds_toArray, List.set_cons_zero, List.set_cons_succ]
              refine takeU (i := 11) (v := .tuple #[.slice A 1 k', .int .i64 0]) rfl (by kernel_rfl) (Or.inl ⟨by rfl, fun V9 h9 => by dsimp only at h9; go_simp⟩) hS ?_
              refine takeU (i := 12) (v := .slice A 1 k') rfl (by kernel_rfl) (Or.inl ⟨by rfl, fun V9 h9 => by dsimp only at h9; go_simp⟩) hS ?_
              refine takeU (i := 13) (v := .int .i64 0) rfl (by kernel_rfl) (Or.inl ⟨by rfl, fun V9 h9 => by dsimp only at h9; go_simp⟩) hS ?_
              refine takeU (i := 14) (v := .slice A 1 k') rfl (by kernel_rfl) (Or.inl ⟨by rfl, fun V9 h9 => by dsimp only at h9; go_simp⟩) hS ?_
              refine takeU (i := 15) (v := .int .i64 0) rfl (by kernel_rfl) (Or.inl ⟨by rfl, fun V9 h9 => by dsimp only at h9; go_simp⟩) hS ?_
              try simp only [Act.put, List.setIfInBounds_toArray, List.set_cons_zero, List.set_cons_succ]
              refine wpAnyH_done (by kernel_rfl) ?_ _
              refine hM9 _ _ ?_
              go_meet
              exact ⟨A, k', rfl, rfl, hT, hKB.kn⟩
          · go_simp
            have hK20 := hKD.alloc LB
            have hBn : (w9.drew.alloc LB).heap[w9.heap.size]? = some LB := heap_new (w9.drew) LB
            refine hK9.out _ _ hK20.cells (fun hS => ?_)
            clear hK9 K9
            refine wpAnyH_ready (rs := [1,8]) (by kernel_rfl) (by simp) (consL rfl (fun K9 hK9 => ?_) (consL rfl (fun K9 hK9 => ?_) AllReadyH.nil))
            · go_simp
              refine (HCF.out _ hK20.kn.fr).mono ?_
              rintro e w7 ⟨g7, cp7, rfl, hk7, hF7, hb7d⟩
              have hK21 := hK20.below hb7d
              have hBn := (hb7d.block _ (heap_lt hBn)).trans hBn
              refine hK9.out _ _ hK21.cells (fun hS => ?_)
              clear hK9 K9
              refine wpAnyH_ready (rs := [8]) (by kernel_rfl) (by simp) (consL rfl (fun K9 hK9 => ?_) AllReadyH.nil)
              go_simp
              have hK22 := hK21.alloc (LO A0 A1 k0 k1 X.2.1 X.2.2)
              have hF7 := hF7.below (ba (LO A0 A1 k0 k1 X.2.1 X.2.2))
              have hBn := heap_keep (o := (LO A0 A1 k0 k1 X.2.1 X.2.2)) hBn
              have hLn : (w7.alloc (LO A0 A1 k0 k1 X.2.1 X.2.2)).heap[w7.heap.size]? = some (LO A0 A1 k0 k1 X.2.1 X.2.2) := heap_new (w7) (LO A0 A1 k0 k1 X.2.1 X.2.2)
              refine hK9.out _ _ hK22.cells (fun hS => ?_)
              clear hK9 K9
              refine wpAnyH_ready (rs := [10]) (by kernel_rfl) (by simp) (consL rfl (fun K9 hK9 => ?_) AllReadyH.nil)
              go_simp
              refine (HRB2.out _ g7 cp7 _ _ hF7 hLn hBn hK22).mono ?_
              rintro e wB ⟨A, k', rfl, hT, hbB⟩
              have hKB := hK22.below hbB
              refine hK9.out _ _ hKB.cells (fun hS => ?_)
              clear hK9 K9
              try simp only [Act.put, List.setIfInBounds_toArray, List.set_cons_zero, List.set_cons_succ]
              refine takeU (i := 11) (v := .tuple #[.slice A 1 k', .int .i64 0]) rfl (by kernel_rfl) (Or.inl ⟨by rfl, fun V9 h9 => by dsimp only at h9; go_simp⟩) hS ?_
              refine takeU (i := 12) (v := .slice A 1 k') rfl (by kernel_rfl) (Or.inl ⟨by rfl, fun V9 h9 => by dsimp only at h9; go_simp⟩) hS ?_
              refine takeU (i := 13) (v := .int .i64 0) rfl (by kernel_rfl) (Or.inl ⟨by rfl, fun V9 h9 => by dsimp only at h9; go_simp⟩) hS ?_
              refine takeU (i := 14) (v := .slice A 1 k') rfl (by kernel_rfl) (Or.inl ⟨by rfl, fun V9 h9 => by dsimp only at h9; go_simp⟩) hS ?_
              refine takeU (i := 15) (v := .int .i64 0) rfl (by kernel_rfl) (Or.inl ⟨by rfl, fun V9 h9 => by dsimp only at h9; go_simp⟩) hS ?_
              try simp only [Act.put, List.setIfInBounds_toArray, List.set_cons_zero, List.set_cons_succ]
              refine wpAnyH_done (by kernel_rfl) ?_ _
              refine hM9 _ _ ?_
              go_meet
              exact ⟨A, k', rfl, rfl, hT, hKB.kn⟩
            · go_simp
              have hK21 := hK20.alloc (LO A0 A1 k0 k1 X.2.1 X.2.2)
              have hBn := heap_keep (o := (LO A0 A1 k0 k1 X.2.1 X.2.2)) hBn
              have hLn : ((w9.drew.alloc LB).alloc (LO A0 A1 k0 k1 X.2.1 X.2.2)).heap[w9.heap.size + 1]? = some (LO A0 A1 k0 k1 X.2.1 X.2.2) := by have h := heap_new ((w9.drew.alloc LB)) (LO A0 A1 k0 k1 X.2.1 X.2.2); rw [World.size_alloc] at h; exact h
              refine hK9.out _ _ hK21.cells (fun hS => ?_)
              clear hK9 K9
              refine wpAnyH_ready (rs := [1]) (by kernel_rfl) (by simp) (consL rfl (fun K9 hK9 => ?_) AllReadyH.nil)
              go_simp
              refine (HCF.out _ hK21.kn.fr).mono ?_
              rintro e w7 ⟨g7, cp7, rfl, hk7, hF7, hb7d⟩
              have hK22 := hK21.below hb7d
              have hLn := (hb7d.block _ (heap_lt hLn)).trans hLn
              have hBn := (hb7d.block _ (heap_lt hBn)).trans hBn
              refine hK9.out _ _ hK22.cells (fun hS => ?_)
              clear hK9 K9
              refine wpAnyH_ready (rs := [10]) (by kernel_rfl) (by simp) (consL rfl (fun K9 hK9 => ?_) AllReadyH.nil)
              go_simp
              refine (HRB2.out _ g7 cp7 _ _ hF7 hLn hBn hK22).mono ?_
              rintro e wB ⟨A, k', rfl, hT, hbB⟩
              have hKB := hK22.below hbB
              refine hK9.out _ _ hKB.cells (fun hS => ?_)
              clear hK9 K9
              try simp only [Act.put, List.setIfInBounds_toArray, List.set_cons_zero, List.set_cons_succ]
              refine takeU (i := 11) (v := .tuple #[.slice A 1 k', .int .i64 0]) rfl (by kernel_rfl) (Or.inl ⟨by rfl, fun V9 h9 => by dsimp only at h9; go_simp⟩) hS ?_
              refine takeU (i := 12) (v := .slice A 1 k') rfl (by kernel_rfl) (Or.inl ⟨by rfl, fun V9 h9 => by dsimp only at h9; go_simp⟩) hS ?_
              refine takeU (i := 13) (v := .int .i64 0) rfl (by kernel_rfl) (Or.inl ⟨by rfl, fun V9 h9 => by dsimp only at h9; go_simp⟩) hS ?_
              refine takeU (i := 14) (v := .slice A 1 k') rfl (by kernel_rfl) (Or.inl ⟨by rfl, fun V9 h9 => by dsimp only at h9; go_simp⟩) hS ?_
              refine takeU (i := 15) (v := .int .i64 0) rfl (by kernel_rfl) (Or.inl ⟨by rfl, fun V9 h9 => by dsimp only at h9; go_simp⟩) hS ?_
              try simp only [Act.put, List.setIfInBounds_toArray, List.set_cons_zero, List.set_cons_succ]
              refine wpAnyH_done (by kernel_rfl) ?_ _
              refine hM9 _ _ ?_
              go_meet
              exact ⟨A, k', rfl, rfl, hT, hKB.kn⟩
        case rest =>
          obtain ⟨A, k', rfl, rfl, hT, hKz⟩ := hcut
          obtain ⟨s0, s1⟩ := hKz.tc
          have hlow := hKz.fr.low.alloc hKz.fr.low.size (.cells #[.string s] 9)
          have HTX := Lib.hid (show Calls Tryz.prog 71 #[.slice A 1 k', .slice (some ⟨wc.heap.size, 0, none⟩) 1 1] (wc.alloc (.cells #[.string s] 9)) (fun e w' => e = .returned (.bool true) ∧ Drew (wc.alloc (.cells #[.string s] 9)) w') from Calls.mono (texts_any A [s] k' (some ⟨wc.heap.size, 0, none⟩) [s] 1 _ (hT.alloc _) (texts_alloc [s] wc) (by show 1 ≤ maxLen; decide) (by show 1 ≤ maxLen; decide)) (fun e w' h => by
            obtain ⟨⟨q, rfl, hq⟩, hd⟩ := h
            rw [hq.2 rfl]
            exact ⟨rfl, hd⟩))
          go_wp2_with fail
          refine HTX.out.mono ?_
          rintro e w11 ⟨rfl, hd⟩
          have hlow2 : Below w.heap.size w w11 := by obtain ⟨n, rfl⟩ := hd; exact below_drewN hlow n
          go_wp2
          go_ret
          exact ⟨rfl, hlow2⟩
end Go.Proofs.YtlkkociijfdcgaaGreatDoor
