/-
  Package impose: half of a sheet's size; a cell turned over.
-/
import Derived.Test.YtjkjfmahcjcniaaYC
namespace Go.Proofs.Ytjkjfmahcjcniaa
open Go.RowKit

def halfC (C : Nat) (b : Bool) : Nat := if b = true then C else C / 2
def halfR (R : Nat) (b : Bool) : Nat := if b = true then R / 2 else R
def evenB (C R : Nat) (b : Bool) : Bool := if b = true then R % 2 == 0 else C % 2 == 0
set_option maxHeartbeats 1000000 in
theorem half_any (C R : Nat) (b : Bool) (w : World) (hC : C ≤ 8) (hR : R ≤ 8) :
    Calls Try.prog 99 #[.agg #[.int .i64 C, .int .i64 R], .bool b] w fun e w' => e = .returned (.tuple #[.agg #[.int .i64 (halfC C b), .int .i64 (halfR R b)], .bool (evenB C R b)]) ∧ Below w.heap.size w w' := by
  have q1 : (C : Int).tdiv 2 = ((C / 2 : Nat) : Int) := by rw [Int.tdiv_eq_ediv_of_nonneg (by omega)]; exact (Int.natCast_ediv C 2).symm
  have q2 : (R : Int).tdiv 2 = ((R / 2 : Nat) : Int) := by rw [Int.tdiv_eq_ediv_of_nonneg (by omega)]; exact (Int.natCast_ediv R 2).symm
  have m1 : (C : Int).tmod 2 = ((C % 2 : Nat) : Int) := by rw [Int.tmod_eq_emod_of_nonneg (by omega)]; exact (Int.natCast_emod C 2).symm
  have m2 : (R : Int).tmod 2 = ((R % 2 : Nat) : Int) := by rw [Int.tmod_eq_emod_of_nonneg (by omega)]; exact (Int.natCast_emod R 2).symm
  obtain ⟨c2, h1⟩ : ∃ n, C / 2 = n := ⟨_, rfl⟩
  obtain ⟨r2, h2⟩ : ∃ n, R / 2 = n := ⟨_, rfl⟩
  obtain ⟨cm, h3⟩ : ∃ n, C % 2 = n := ⟨_, rfl⟩
  obtain ⟨rm, h4⟩ : ∃ n, R % 2 = n := ⟨_, rfl⟩
  have hcl : c2 ≤ 8 ∧ r2 ≤ 8 ∧ cm < 2 ∧ rm < 2 := by omega
  rw [h1] at q1; rw [h2] at q2; rw [h3] at m1; rw [h4] at m2
  have hB := ((Below.refl w.heap.size w).alloc (Nat.le_refl _) (.cells #[.int .i64 C, .int .i64 R] 122)).alloc (by simp) (.cells #[.int .i64 0, .int .i64 0] 122)
  obtain ⟨hc0, hc1, hc2, hc3⟩ := hcl
  cases b
  · have HE : Hid (halfC C false = c2 ∧ halfR R false = R ∧ evenB C R false = ((cm : Int) == 0)) := Lib.hid (by
      unfold halfC halfR evenB; rw [if_neg (by simp), if_neg (by simp), if_neg (by simp), h1, h3]
      exact ⟨rfl, rfl, by rw [Bool.eq_iff_iff]; simp⟩)
    rw [HE.out.1, HE.out.2.1, HE.out.2.2]
    clear h1 h2 h3 h4 q2 m2
    go_enter Try.func99, Try.ntmps99
    go_wp2
    go_region
    go_wp2
    refine bodyPost_ret (v := .tuple #[.agg #[.int .i64 c2, .int .i64 R], .bool ((cm : Int) == 0)]) (by simp [results, Try.results99, go_sem]) rfl ⟨rfl, ?_⟩
    (repeat (first | exact Below.refl _ _ | refine Below.alloc ?_ (by simp <;> omega) _ | refine Below.setCell ?_ (by simp <;> omega) _ | refine below_drewN ?_ _ | refine Below.drew ?_))
  · have HE : Hid (halfC C true = C ∧ halfR R true = r2 ∧ evenB C R true = ((rm : Int) == 0)) := Lib.hid (by
      unfold halfC halfR evenB; rw [if_pos rfl, if_pos rfl, if_pos rfl, h2, h4]
      exact ⟨rfl, rfl, by rw [Bool.eq_iff_iff]; simp⟩)
    rw [HE.out.1, HE.out.2.1, HE.out.2.2]
    clear h1 h2 h3 h4 q1 m1
    go_enter Try.func99, Try.ntmps99
    go_wp2
    go_region
    go_wp2
    refine bodyPost_ret (v := .tuple #[.agg #[.int .i64 C, .int .i64 r2], .bool ((rm : Int) == 0)]) (by simp [results, Try.results99, go_sem]) rfl ⟨rfl, ?_⟩
    (repeat (first | exact Below.refl _ _ | refine Below.alloc ?_ (by simp <;> omega) _ | refine Below.setCell ?_ (by simp <;> omega) _ | refine below_drewN ?_ _ | refine Below.drew ?_))
/-- A cell as it is seen when its sheet is turned over. -/
def ovCell (b : Bool) (x : Cell) : Cell := ⟨x.b, xr x.bt (roundB b), x.f, xr x.ft (roundB b)⟩
set_option maxRecDepth 100000 in
set_option maxHeartbeats 16000000 in
theorem overturned_any (x : Cell) (b : Bool) (w : World) (h1 : Bit x.ft) (h2 : Bit x.bt) :
    Calls Try.prog 100 #[.agg #[.int .i64 x.f, .int .i64 x.ft, .int .i64 x.b, .int .i64 x.bt], .bool b] w (AggPost (.agg #[.int .i64 x.b, .int .i64 (xr x.bt (roundB b)), .int .i64 x.f, .int .i64 (xr x.ft (roundB b))]) w) := by
  obtain ⟨f, ft, bk, bt⟩ := x
  have H1 : Hid (Bit ft) := Lib.hid h1
  have H2 : Hid (Bit bt) := Lib.hid h2
  have bx := (BoxAt.new w #[.int .i64 f, .int .i64 ft, .int .i64 bk, .int .i64 bt] 91).alloc (.cells #[.int .i64 0, .int .i64 0, .int .i64 0, .int .i64 0] 91)
  have br := BoxAt.new (w.alloc (.cells #[.int .i64 f, .int .i64 ft, .int .i64 bk, .int .i64 bt] 91)) #[.int .i64 0, .int .i64 0, .int .i64 0, .int .i64 0] 91
  simp at br
  have hB1 := ((Below.refl w.heap.size w).alloc (Nat.le_refl _) (.cells #[.int .i64 f, .int .i64 ft, .int .i64 bk, .int .i64 bt] 91)).alloc (by simp) (.cells #[.int .i64 0, .int .i64 0, .int .i64 0, .int .i64 0] 91)
  obtain ⟨w1, hw1⟩ : ∃ w1, w1 = (w.alloc (.cells #[.int .i64 f, .int .i64 ft, .int .i64 bk, .int .i64 bt] 91)).alloc (.cells #[.int .i64 0, .int .i64 0, .int .i64 0, .int .i64 0] 91) := ⟨_, rfl⟩
  rw [← hw1] at bx br hB1
  have W1 := Lib.hid hw1
  clear hw1 h1 h2
  have c0 := bx.cell 0; have c1 := bx.cell 1; have c2 := bx.cell 2; have c3 := bx.cell 3
  have hbl := bx.lt
  simp at c0 c1 c2 c3
  go_enter Try.func100, Try.ntmps100
  go_wp2_with (go_at_call 98; refine (roundIf2 b _).mono ?_; rintro e w' ⟨rfl, rfl⟩)
  rw [← W1.out]
  have hq : Below w1.heap.size w1 w1.drew := (Below.refl _ w1).drew
  have jn0 := World.new_ne _ _ c0; have jn1 := World.new_ne _ _ c1; have jn2 := World.new_ne _ _ c2; have jn3 := World.new_ne _ _ c3
  have r0 := br.cell 0; have r1 := br.cell 1; have r2 := br.cell 2; have r3 := br.cell 3
  have hrl := br.lt
  simp at r0 r1 r2 r3
  go_region_held3 (fun w' => w'.cell? ⟨w.heap.size, 0, none⟩ = some (.int .i64 f) ∧ w'.cell? ⟨w.heap.size, 1, none⟩ = some (.int .i64 ft) ∧ w'.cell? ⟨w.heap.size, 2, none⟩ = some (.int .i64 bk) ∧ w'.cell? ⟨w.heap.size, 3, none⟩ = some (.int .i64 bt)) (first | exact ⟨j0, j1, j2, j3⟩ | go_keep)
    (first
      | (go_at_call 87; refine (backOf_any ⟨f, ft, bk, bt⟩ _).mono ?_; rintro e v ⟨rfl, hbv⟩; have hq := hq.trans (hbv.mono hq.size); have j0 := (hq.cell (p := ⟨w.heap.size, 0, none⟩) hbl).trans c0; have j1 := (hq.cell (p := ⟨w.heap.size, 1, none⟩) hbl).trans c1; have j2 := (hq.cell (p := ⟨w.heap.size, 2, none⟩) hbl).trans c2; have j3 := (hq.cell (p := ⟨w.heap.size, 3, none⟩) hbl).trans c3; have jn0 := World.new_ne _ _ j0; have jn1 := World.new_ne _ _ j1; have jn2 := World.new_ne _ _ j2; have jn3 := World.new_ne _ _ j3; have bq := br.below hq; have z := fun j => bq.free j; have g0 := bq.cell 0; have g1 := bq.cell 1; have g2 := bq.cell 2; have g3 := bq.cell 3; have gl := bq.lt; simp at g0 g1 g2 g3)
      | (go_at_call 86; refine (frontOf_any ⟨f, ft, bk, bt⟩ _).mono ?_; rintro e v ⟨rfl, hbv⟩; have hq := hq.trans (hbv.mono hq.size); have j0 := (hq.cell (p := ⟨w.heap.size, 0, none⟩) hbl).trans c0; have j1 := (hq.cell (p := ⟨w.heap.size, 1, none⟩) hbl).trans c1; have j2 := (hq.cell (p := ⟨w.heap.size, 2, none⟩) hbl).trans c2; have j3 := (hq.cell (p := ⟨w.heap.size, 3, none⟩) hbl).trans c3; have jn0 := World.new_ne _ _ j0; have jn1 := World.new_ne _ _ j1; have jn2 := World.new_ne _ _ j2; have jn3 := World.new_ne _ _ j3; have bq := br.below hq; have z := fun j => bq.free j; have g0 := bq.cell 0; have g1 := bq.cell 1; have g2 := bq.cell 2; have g3 := bq.cell 3; have gl := bq.lt; simp at g0 g1 g2 g3)
      | (go_at_call 97; refine (turned_any ⟨bk, bt⟩ (roundB b) _ H2.out (roundB_bit b)).mono ?_; rintro e v ⟨rfl, hbv⟩; have hq := hq.trans (hbv.mono hq.size); have j0 := (hq.cell (p := ⟨w.heap.size, 0, none⟩) hbl).trans c0; have j1 := (hq.cell (p := ⟨w.heap.size, 1, none⟩) hbl).trans c1; have j2 := (hq.cell (p := ⟨w.heap.size, 2, none⟩) hbl).trans c2; have j3 := (hq.cell (p := ⟨w.heap.size, 3, none⟩) hbl).trans c3; have jn0 := World.new_ne _ _ j0; have jn1 := World.new_ne _ _ j1; have jn2 := World.new_ne _ _ j2; have jn3 := World.new_ne _ _ j3; have bq := br.below hq; have z := fun j => bq.free j; have g0 := bq.cell 0; have g1 := bq.cell 1; have g2 := bq.cell 2; have g3 := bq.cell 3; have gl := bq.lt; simp at g0 g1 g2 g3)
      | (go_at_call 97; refine (turned_any ⟨f, ft⟩ (roundB b) _ H1.out (roundB_bit b)).mono ?_; rintro e v ⟨rfl, hbv⟩; have hq := hq.trans (hbv.mono hq.size); have j0 := (hq.cell (p := ⟨w.heap.size, 0, none⟩) hbl).trans c0; have j1 := (hq.cell (p := ⟨w.heap.size, 1, none⟩) hbl).trans c1; have j2 := (hq.cell (p := ⟨w.heap.size, 2, none⟩) hbl).trans c2; have j3 := (hq.cell (p := ⟨w.heap.size, 3, none⟩) hbl).trans c3; have jn0 := World.new_ne _ _ j0; have jn1 := World.new_ne _ _ j1; have jn2 := World.new_ne _ _ j2; have jn3 := World.new_ne _ _ j3; have bq := br.below hq; have z := fun j => bq.free j; have g0 := bq.cell 0; have g1 := bq.cell 1; have g2 := bq.cell 2; have g3 := bq.cell 3; have gl := bq.lt; simp at g0 g1 g2 g3)
      | (go_at_call 81; refine (cellOf_any ⟨bk, xr bt (roundB b)⟩ ⟨f, xr ft (roundB b)⟩ _).mono ?_; rintro e v ⟨rfl, hbv⟩; have hq := hq.trans (hbv.mono hq.size); have j0 := (hq.cell (p := ⟨w.heap.size, 0, none⟩) hbl).trans c0; have j1 := (hq.cell (p := ⟨w.heap.size, 1, none⟩) hbl).trans c1; have j2 := (hq.cell (p := ⟨w.heap.size, 2, none⟩) hbl).trans c2; have j3 := (hq.cell (p := ⟨w.heap.size, 3, none⟩) hbl).trans c3; have jn0 := World.new_ne _ _ j0; have jn1 := World.new_ne _ _ j1; have jn2 := World.new_ne _ _ j2; have jn3 := World.new_ne _ _ j3; have bq := br.below hq; have z := fun j => bq.free j; have g0 := bq.cell 0; have g1 := bq.cell 1; have g2 := bq.cell 2; have g3 := bq.cell 3; have gl := bq.lt; simp at g0 g1 g2 g3))
  all_goals
    go_wp2_with fail
    refine bodyPost_ret (v := .agg #[.int .i64 bk, .int .i64 (xr bt (roundB b)), .int .i64 f, .int .i64 (xr ft (roundB b))]) ?_ rfl ⟨rfl, ?_⟩
    · simp [results, Try.results100, go_sem, g0, g1, g2, g3]
    · exact ((((hB1.trans (hq.mono (B' := w.heap.size) hB1.size)).setCell (p := ⟨w.heap.size + 1, 0, none⟩) (by show w.heap.size ≤ w.heap.size + 1; omega) _).setCell (p := ⟨w.heap.size + 1, 1, none⟩) (by show w.heap.size ≤ w.heap.size + 1; omega) _).setCell (p := ⟨w.heap.size + 1, 2, none⟩) (by show w.heap.size ≤ w.heap.size + 1; omega) _).setCell (p := ⟨w.heap.size + 1, 3, none⟩) (by show w.heap.size ≤ w.heap.size + 1; omega) _
end Go.Proofs.Ytjkjfmahcjcniaa
