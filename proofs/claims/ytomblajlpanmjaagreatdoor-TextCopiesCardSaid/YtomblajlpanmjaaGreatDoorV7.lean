/-
  What the program learns of rules.
-/
import Derived.Test.YtomblajlpanmjaaGreatDoorQY
import Derived.Test.YtomblajlpanmjaaGreatDoorV6
import Derived.Laws.EntriesVeiled
namespace Go.Proofs.YtomblajlpanmjaaGreatDoor
open Go.RowKit Go.Maps

theorem excStyle_any (w : World) : Calls Tryz.prog 97 #[] w fun e w' => e = .returned (.agg #[.string ⟨#[45]⟩, .func (.func 135) #[] #[]]) ∧ Below w.heap.size w w' := by
  go_enter Tryz.func97, Tryz.ntmps97
  go_wp2

  exact bodyPost_ret (v := .agg #[.string ⟨#[45]⟩, .func (.func 135) #[] #[]]) (by simp [results, Tryz.results97, go_sem]) rfl ⟨rfl, (Below.refl _ _).alloc (Nat.le_refl _) _⟩
theorem barStyle_any (w : World) : Calls Tryz.prog 99 #[] w fun e w' => e = .returned (.agg #[.string ⟨#[124]⟩, .func (.func 139) #[] #[]]) ∧ Below w.heap.size w w' := by
  go_enter Tryz.func99, Tryz.ntmps99
  go_wp2
  exact bodyPost_ret (v := .agg #[.string ⟨#[124]⟩, .func (.func 139) #[] #[]]) (by simp [results, Tryz.results99, go_sem]) rfl ⟨rfl, (Below.refl _ _).alloc (Nat.le_refl _) _⟩
def checkR (r : RU) : Int × Int :=
  if (checkPats r.ps.l).2 ≠ 0 then checkPats r.ps.l else if (checkE excS r.es.l).2 ≠ 0 then checkE excS r.es.l else if (checkE barS r.bs.l).2 ≠ 0 then checkE barS r.bs.l
  else if r.left < 1 ∨ 10 < r.left ∨ r.right < 1 ∨ 10 < r.right then (0, 2) else (0, 0)
/-- The book of rules, as it lies in memory. -/
structure BookAt (w : World) (base : Nat) (r : RU) (g b1 b2 : Nat) : Prop where
  lo : base ≤ g
  pats : PRow w g r.ps.l.length (patG r.ps.l) r.ps.l.length
  exc : MarkMap w base b1 (entsN excS r.es.l r.es.l.length)
  bars : MarkMap w base b2 (entsN barS r.bs.l r.bs.l.length)
theorem PRow.far {w : World} {g n k : Nat} {fn : Nat → Pat} (h : PRow w g n fn k) {p : Addr} (hp : p.block < g) (u : Value) : PRow (w.setCell p u) g n fn k := by
  obtain ⟨cs, h1, h2⟩ := h.row
  refine ⟨⟨cs, (Below.heap_setCell _ _ _ _ (by omega)).trans h1, h2⟩, fun j hj => ?_⟩
  obtain ⟨s, A, cap, c0, c1, c2, c3, hs, hA, hI⟩ := h.pats j hj
  have ho : ∀ o, (w.setCell p u).cell? ⟨g, o, none⟩ = w.cell? ⟨g, o, none⟩ := fun o => World.cell?_setCell_other _ _ _ _ (fun e => by have := congrArg Addr.block e; simp at this; omega)
  refine ⟨s, A, cap, (ho _).trans c0, (ho _).trans c1, (ho _).trans c2, (ho _).trans c3, hs, hA, fun k hk => ?_⟩
  obtain ⟨ad, e, hlt, hc⟩ := hI k hk
  cases e
  exact ⟨A, rfl, by simpa [World.setCell] using hlt, (World.cell?_setCell_other _ _ _ _ (fun e2 => by have := congrArg Addr.block e2; rw [add_block] at this; omega)).trans hc⟩
section
variable {w w' : World} {B base : Nat} {r : RU} {g b1 b2 : Nat}
theorem BookAt.below (h : BookAt w base r g b1 b2) (hb : Below w.heap.size w w') : BookAt w' base r g b1 b2 := ⟨h.lo, h.pats.below hb, h.exc.below hb, h.bars.below hb⟩
theorem BookAt.set (h : BookAt w base r g b1 b2) {p : Addr} (hp : p.block < base) (u : Value) : BookAt (w.setCell p u) base r g b1 b2 := ⟨h.lo, h.pats.far (by have := h.lo; omega) u, h.exc.set hp u, h.bars.set hp u⟩
theorem BookAt.mono (h : BookAt w base r g b1 b2) (hB : B ≤ base) : BookAt w B r g b1 b2 := ⟨Nat.le_trans hB h.lo, h.pats, h.exc.mono hB, h.bars.mono hB⟩
theorem BookAt.alloc (h : BookAt w base r g b1 b2) (o : Obj) : BookAt (w.alloc o) base r g b1 b2 := h.below ((Below.refl _ _).alloc (Nat.le_refl _) o)
theorem BookAt.drew (h : BookAt w base r g b1 b2) : BookAt w.drew base r g b1 b2 := h.below (Below.refl _ _).drew
theorem BookAt.drewN (h : BookAt w base r g b1 b2) (n : Nat) : BookAt (w.drewN n) base r g b1 b2 := h.below (below_drewN (Below.refl _ _) n)
end
def bookV (r : RU) (g b1 b2 : Nat) : Value := .agg #[.slice (some ⟨g, 0, none⟩) r.ps.l.length r.ps.l.length, .map (some b1), .map (some b2), .int .i64 r.left, .int .i64 r.right]
theorem PRow.drew_ {w : World} {g n k : Nat} {fn : Nat → Pat} (h : PRow w g n fn k) : PRow w.drew g n fn k := h.below (Below.refl _ _).drew
theorem MarkMap.drew_ {w : World} {base b : Nat} {E : List (List UInt8 × List Int)} (h : MarkMap w base b E) : MarkMap w.drew base b E := h.below (Below.refl _ _).drew
def noBook : Value := .agg #[.slice none 0 0, .map none, .map none, .int .i64 0, .int .i64 0]
def LearnPost (w : World) (r : RU) (e : Ending) (w' : World) : Prop :=
  Below w.heap.size w w' ∧ if (checkR r).2 = 0 then ∃ g b1 b2, e = .returned (.tuple #[bookV r g b1 b2, .int .i64 0, .int .i64 0]) ∧ BookAt w' w.heap.size r g b1 b2
    else e = .returned (.tuple #[noBook, .int .i64 (checkR r).1, .int .i64 (checkR r).2])
def boxR (r : RU) : Obj := .cells r.cells 24
def zeroBk : Obj := .cells #[.slice none 0 0, .map none, .map none, .int .i64 0, .int .i64 0] 109
/-- The two boxes of the call, as they lie while it goes on. -/
structure LRel (w : World) (r : RU) (wr : World) : Prop where
  bel : Below (w.heap.size + 2) ((w.alloc (boxR r)).alloc zeroBk) wr
section
variable {w wr wr' : World} {r : RU}
theorem LRel.box (h : LRel w r wr) : wr.heap[w.heap.size]? = some (.cells r.cells 24 (0, 0)) := by
  rw [h.bel.block w.heap.size (by omega), heap_alloc_old _ _ (by simp)]; exact heap_alloc_new w _
theorem LRel.zero (h : LRel w r wr) : wr.heap[w.heap.size + 1]? = some (.cells #[.slice none 0 0, .map none, .map none, .int .i64 0, .int .i64 0] 109 (0, 0)) := by
  rw [h.bel.block (w.heap.size + 1) (by omega)]
  have := heap_alloc_new (w.alloc (boxR r)) zeroBk
  rwa [show (w.alloc (boxR r)).heap.size = w.heap.size + 1 by simp] at this
theorem LRel.z0 (h : LRel w r wr) : wr.cell? ⟨w.heap.size + 1, 0, none⟩ = some (.slice none 0 0) := by rw [cell_of_row wr _ 0 _ _ (0, 0) h.zero]; rfl
theorem LRel.q0 (h : LRel w r wr) : wr.cell? ⟨w.heap.size, 0, none⟩ = some (.slice r.ps.a r.ps.l.length r.ps.c) := by rw [cell_of_row wr _ 0 _ _ (0, 0) h.box]; rfl
theorem LRel.z1 (h : LRel w r wr) : wr.cell? ⟨w.heap.size + 1, 1, none⟩ = some (.map none) := by rw [cell_of_row wr _ 1 _ _ (0, 0) h.zero]; rfl
theorem LRel.q1 (h : LRel w r wr) : wr.cell? ⟨w.heap.size, 1, none⟩ = some (.slice r.es.a r.es.l.length r.es.c) := by rw [cell_of_row wr _ 1 _ _ (0, 0) h.box]; rfl
theorem LRel.z2 (h : LRel w r wr) : wr.cell? ⟨w.heap.size + 1, 2, none⟩ = some (.map none) := by rw [cell_of_row wr _ 2 _ _ (0, 0) h.zero]; rfl
theorem LRel.q2 (h : LRel w r wr) : wr.cell? ⟨w.heap.size, 2, none⟩ = some (.slice r.bs.a r.bs.l.length r.bs.c) := by rw [cell_of_row wr _ 2 _ _ (0, 0) h.box]; rfl
theorem LRel.z3 (h : LRel w r wr) : wr.cell? ⟨w.heap.size + 1, 3, none⟩ = some (.int .i64 0) := by rw [cell_of_row wr _ 3 _ _ (0, 0) h.zero]; rfl
theorem LRel.q3 (h : LRel w r wr) : wr.cell? ⟨w.heap.size, 3, none⟩ = some (.int .i64 r.left) := by rw [cell_of_row wr _ 3 _ _ (0, 0) h.box]; rfl
theorem LRel.z4 (h : LRel w r wr) : wr.cell? ⟨w.heap.size + 1, 4, none⟩ = some (.int .i64 0) := by rw [cell_of_row wr _ 4 _ _ (0, 0) h.zero]; rfl
theorem LRel.q4 (h : LRel w r wr) : wr.cell? ⟨w.heap.size, 4, none⟩ = some (.int .i64 r.right) := by rw [cell_of_row wr _ 4 _ _ (0, 0) h.box]; rfl
theorem LRel.fz (h : LRel w r wr) (j : Nat) : wr.frozen? ⟨w.heap.size + 1, j, none⟩ = false := by simp [World.frozen?, h.zero]
theorem LRel.lo (h : LRel w r wr) : w.heap.size + 2 ≤ wr.heap.size := by have := h.bel.size; simpa using this
theorem LRel.step (h : LRel w r wr) (hb : Below wr.heap.size wr wr') : LRel w r wr' := ⟨h.bel.trans (hb.mono (by have := h.bel.size; simp at this; omega))⟩
theorem LRel.drewN (h : LRel w r wr) (n : Nat) : LRel w r (wr.drewN n) := ⟨below_drewN h.bel n⟩
theorem LRel.drew (h : LRel w r wr) : LRel w r wr.drew := ⟨h.bel.drew⟩
theorem LRel.low (h : LRel w r wr) : Below w.heap.size w wr := (((Below.refl _ _).alloc (Nat.le_refl _) _).alloc (by simp) _).trans (h.bel.mono (by omega))
theorem LRel.set (h : LRel w r wr) (j : Nat) (u : Value) : Below w.heap.size w (wr.setCell ⟨w.heap.size + 1, j, none⟩ u) := h.low.setCell (by simp) _
theorem LRel.start : LRel w r ((w.alloc (boxR r)).alloc zeroBk) := ⟨Below.refl _ _⟩
end

set_option maxRecDepth 100000 in
set_option maxHeartbeats 400000 in
theorem learnR_any (r : RU) (w : World) (hR : r.at_ w) :
    Calls Tryz.prog 54 #[.agg r.cells] w (LearnPost w r) := by
  have L0 : LRel w r ((w.alloc (boxR r)).alloc zeroBk) := LRel.start
  obtain ⟨h1, h2, h3⟩ := hR
  have H1 := Lib.hid (patternsOf_any r.ps.a r.ps.l r.ps.c ((w.alloc (boxR r)).alloc zeroBk) (h1.1.below L0.low) h1.2.1 h1.2.2)
  unfold boxR RU.cells zeroBk at H1
  have HD1 := Lib.hid h1; have HD2 := Lib.hid h2; have HD3 := Lib.hid h3
  clear h1 h2 h3
  unfold RU.cells
  cases e1 : (checkPats r.ps.l).2 == 0
  · have n1 : (checkPats r.ps.l).2 ≠ 0 := by simpa using e1
    have HE := Lib.hid (show checkR r = checkPats r.ps.l by unfold checkR; rw [if_pos n1])
    have N1 := Lib.hid n1
    clear n1
    go_enter Tryz.func54, Tryz.ntmps54
    go_wp2_with fail
    refine H1.out.mono ?_
    rintro e w1 ⟨hb1, hp1⟩
    rw [if_neg N1.out] at hp1
    subst hp1
    have L1 := L0.step hb1
    clear hb1
    have z0 := L1.z0; have z1 := L1.z1; have z2 := L1.z2; have z3 := L1.z3; have z4 := L1.z4
    have hfz := L1.fz
    go_wp2
    refine bodyPost_ret (v := .tuple #[noBook, .int .i64 (checkPats r.ps.l).1, .int .i64 (checkPats r.ps.l).2]) ?_ rfl ?_
    · simp [results, Tryz.results54, go_sem, noBook, z0, z1, z2, z3, z4]
    · exact ⟨((((L1.low.setCell (by simp) _).setCell (by simp) _).setCell (by simp) _).setCell (by simp) _).setCell (by simp) _, by rw [HE.out, if_neg N1.out]⟩
  · have n1 : (checkPats r.ps.l).2 = 0 := by simpa using e1
    have HE := Lib.hid (show checkR r = if (checkE excS r.es.l).2 ≠ 0 then checkE excS r.es.l else if (checkE barS r.bs.l).2 ≠ 0 then checkE barS r.bs.l
      else if r.left < 1 ∨ 10 < r.left ∨ r.right < 1 ∨ 10 < r.right then (0, 2) else (0, 0) by unfold checkR; rw [if_neg (by rw [n1]; simp)])
    have N1 := Lib.hid n1
    clear n1
    go_enter Tryz.func54, Tryz.ntmps54
    go_wp2_with fail
    refine H1.out.mono ?_
    rintro e w1 ⟨hb1, hp1⟩
    rw [if_pos N1.out] at hp1
    obtain ⟨g, rfl, hg0, hpr⟩ := hp1
    have L1 := L0.step hb1
    clear hb1
    have q1 := L1.q1
    go_wp2_with fail
    cases e2 : (checkE excS r.es.l).2 == 0
    · have n2 : (checkE excS r.es.l).2 ≠ 0 := by simpa using e2
      have HE2 := Lib.hid (HE.out.trans (if_pos n2))
      have N2 := Lib.hid n2
      clear n2
      go_region_held3 (fun w' => w'.cell? ⟨w.heap.size, 1, none⟩ = some (.slice r.es.a r.es.l.length r.es.c)) (go_keep)
        (first
          | (go_at_call 97; refine (excStyle_any _).mono ?_; rintro e w2 ⟨rfl, hb2⟩; have L2 := L1.drew.step hb2; have q1' := L2.q1)
          | (go_at_call 98; refine (read_any excS excS_ok (.inl rfl) r.es.a r.es.l r.es.c _ (HD2.out.1.below L2.low) HD2.out.2.1).mono ?_; rintro e w3 ⟨hb3, hp3⟩; rw [if_neg N2.out] at hp3; subst hp3; have L3 := L2.step hb3; have q1'' := L3.q1))
      have z0 := L3.z0; have z1 := L3.z1; have z2 := L3.z2; have z3 := L3.z3; have z4 := L3.z4
      have hfz := L3.fz
      go_wp2
      refine bodyPost_ret (v := .tuple #[noBook, .int .i64 (checkE excS r.es.l).1, .int .i64 (checkE excS r.es.l).2]) ?_ rfl ?_
      · simp [results, Tryz.results54, go_sem, noBook, z0, z1, z2, z3, z4]
      · exact ⟨((((L3.low.setCell (by simp) _).setCell (by simp) _).setCell (by simp) _).setCell (by simp) _).setCell (by simp) _, by rw [HE2.out, if_neg N2.out]⟩
    · have n2 : (checkE excS r.es.l).2 = 0 := by simpa using e2
      have HE2 := Lib.hid (HE.out.trans (if_neg (by rw [n2]; simp)))
      have N2 := Lib.hid n2
      clear n2
      go_region_held3 (fun w' => w'.cell? ⟨w.heap.size, 1, none⟩ = some (.slice r.es.a r.es.l.length r.es.c)) (go_keep)
        (first
          | (go_at_call 97; refine (excStyle_any _).mono ?_; rintro e w2 ⟨rfl, hb2⟩; have L2 := L1.drew.step hb2; have q1' := L2.q1)
          | (go_at_call 98; refine (read_any excS excS_ok (.inl rfl) r.es.a r.es.l r.es.c _ (HD2.out.1.below L2.low) HD2.out.2.1).mono ?_; rintro e w3 ⟨hb3, hp3⟩; rw [if_pos N2.out] at hp3; obtain ⟨b1, rfl, hm1⟩ := hp3; have L3 := L2.step hb3; have q1'' := L3.q1))
      have hpr3 := ((hpr.drew_).below hb2).below hb3
      have q2 := L3.q2
      clear hpr q1 q1' q1'' hb2 hb3
      go_wp2_with fail
      cases e3 : (checkE barS r.bs.l).2 == 0
      · have n3 : (checkE barS r.bs.l).2 ≠ 0 := by simpa using e3
        have HE3 := Lib.hid (HE2.out.trans (if_pos n3))
        have N3 := Lib.hid n3
        clear n3
        go_region_held3 (fun w' => w'.cell? ⟨w.heap.size, 2, none⟩ = some (.slice r.bs.a r.bs.l.length r.bs.c)) (go_keep)
          (first
            | (go_at_call 99; refine (barStyle_any _).mono ?_; rintro e w4 ⟨rfl, hb4⟩; have L4 := L3.drew.step hb4; have q2' := L4.q2)
            | (go_at_call 98; refine (read_any barS barS_ok (.inr rfl) r.bs.a r.bs.l r.bs.c _ (HD3.out.1.below L4.low) HD3.out.2.1).mono ?_; rintro e w5 ⟨hb5, hp5⟩; rw [if_neg N3.out] at hp5; subst hp5; have L5 := L4.step hb5; have q2'' := L5.q2))
        have z0 := L5.z0; have z1 := L5.z1; have z2 := L5.z2; have z3 := L5.z3; have z4 := L5.z4
        have hfz := L5.fz
        go_wp2
        refine bodyPost_ret (v := .tuple #[noBook, .int .i64 (checkE barS r.bs.l).1, .int .i64 (checkE barS r.bs.l).2]) ?_ rfl ?_
        · simp [results, Tryz.results54, go_sem, noBook, z0, z1, z2, z3, z4]
        · exact ⟨((((L5.low.setCell (by simp) _).setCell (by simp) _).setCell (by simp) _).setCell (by simp) _).setCell (by simp) _, by rw [HE3.out, if_neg N3.out]⟩
      · have n3 : (checkE barS r.bs.l).2 = 0 := by simpa using e3
        have HE3 := Lib.hid (HE2.out.trans (if_neg (by rw [n3]; simp)))
        have N3 := Lib.hid n3
        clear n3
        go_region_held3 (fun w' => w'.cell? ⟨w.heap.size, 2, none⟩ = some (.slice r.bs.a r.bs.l.length r.bs.c)) (go_keep)
          (first
            | (go_at_call 99; refine (barStyle_any _).mono ?_; rintro e w4 ⟨rfl, hb4⟩; have L4 := L3.drew.step hb4; have q2' := L4.q2)
            | (go_at_call 98; refine (read_any barS barS_ok (.inr rfl) r.bs.a r.bs.l r.bs.c _ (HD3.out.1.below L4.low) HD3.out.2.1).mono ?_; rintro e w5 ⟨hb5, hp5⟩; rw [if_pos N3.out] at hp5; obtain ⟨b2, rfl, hm2⟩ := hp5; have L5 := L4.step hb5; have q2'' := L5.q2))
        have hpr5 := ((hpr3.drew_).below hb4).below hb5
        have hm15 := ((hm1.drew_).below hb4).below hb5
        have z0 := L5.z0; have z1 := L5.z1; have z2 := L5.z2; have z3 := L5.z3; have z4 := L5.z4
        have hfz := L5.fz
        have q3 := L5.q3; have q4 := L5.q4
        clear q2 q2' q2'' hb4 hb5
        by_cases hr : r.left < 1 ∨ 10 < r.left ∨ r.right < 1 ∨ 10 < r.right
        · have HE4 := Lib.hid (HE3.out.trans (if_pos hr))
          go_wp2
          all_goals first | (exfalso; omega) | skip
          all_goals refine bodyPost_ret (v := .tuple #[noBook, .int .i64 0, .int .i64 2]) ?_ rfl ?_
          all_goals first
            | (simp [results, Tryz.results54, go_sem, noBook, z0, z1, z2, z3, z4]; done)
            | exact ⟨((((L5.low.setCell (by simp) _).setCell (by simp) _).setCell (by simp) _).setCell (by simp) _).setCell (by simp) _, by rw [HE4.out]; exact rfl⟩
        · have HE4 := Lib.hid (HE3.out.trans (if_neg hr))
          have hlo1 := L1.lo; have hlo2 := L2.lo; have hlo4 := L4.lo
          have hbk : BookAt w5 (w.heap.size + 2) r g b1 b2 := ⟨by simpa using hg0, hpr5, hm15.mono hlo2, hm2.mono hlo4⟩
          have HBK := Lib.hid ((((((hbk.set (p := ⟨w.heap.size + 1, 0, none⟩) (by simp) (.slice (some ⟨g, 0, none⟩) r.ps.l.length r.ps.l.length)).set (p := ⟨w.heap.size + 1, 1, none⟩) (by simp) (.map (some b1))).set (p := ⟨w.heap.size + 1, 2, none⟩) (by simp) (.map (some b2))).set (p := ⟨w.heap.size + 1, 3, none⟩) (by simp) (.int .i64 r.left)).set (p := ⟨w.heap.size + 1, 4, none⟩) (by simp) (.int .i64 r.right)).mono (B := w.heap.size) (by omega))
          clear hbk hg0 hpr5 hm15 hm2
          go_wp2
          all_goals first | (exfalso; omega) | skip
          all_goals refine bodyPost_ret (v := .tuple #[bookV r g b1 b2, .int .i64 0, .int .i64 0]) ?_ rfl ?_
          all_goals first
            | (simp [results, Tryz.results54, go_sem, bookV, z0, z1, z2, z3, z4]; done)
            | (exact ⟨((((L5.low.setCell (by simp) _).setCell (by simp) _).setCell (by simp) _).setCell (by simp) _).setCell (by simp) _, by rw [HE4.out]; exact ⟨g, b1, b2, rfl, HBK.out⟩⟩)
end Go.Proofs.YtomblajlpanmjaaGreatDoor
