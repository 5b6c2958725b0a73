/-
  Package impose: a blank view; the views of a scheme's front and back.
-/
import Derived.Test.YtgoandhlcekmiaaGreatDoorYB
import Derived.Test.YtgoandhlcekmiaaGreatDoorKM
namespace Go.Proofs.YtgoandhlcekmiaaGreatDoor
open Go.RowKit

theorem info_page : (Tryz.prog.info? 79).map (fun i => (i.zero, i.size, i.bytes)) = some (some (.agg #[.int .i64 0, .int .i64 0]), 2, 16) := by kernel_rfl
theorem OwnR.made2 {α : Type} {E : TypeId} {g : α → List Int} (hg : ∀ x, (g x).length = 2) (w : World) (x : α) (hx : g x = [0, 0]) (n : Nat) (hn : n ≤ 1000000) : OwnR 2 E g (w.alloc (.cells (madeCells #[.int .i64 0, .int .i64 0] (n * 2)) E)) w.heap.size (.slice (some ⟨w.heap.size, 0, none⟩) n n) (List.replicate n x) := by
  unfold OwnR
  rw [List.length_replicate]
  have hs : (madeCells #[.int .i64 0, .int .i64 0] (n * 2)).size = n * 2 := size_madeCells _ _
  refine ⟨by simp [vals, flat_len hg], Or.inr ⟨w.heap.size, n, _, rfl, Nat.le_refl _, heap_alloc_new w _, Nat.le_refl _, by unfold maxLen; omega, hs, ?_⟩⟩
  rw [List.take_of_length_le (by rw [Array.length_toList, hs]; exact Nat.le_refl _)]
  apply List.ext_getElem
  · rw [Array.length_toList, hs]; simp [vals, flat_len hg]
  · intro i h1 h2
    have hi : i < n * 2 := by rw [Array.length_toList, hs] at h1; exact h1
    have e1 : (vals ((List.replicate n x).flatMap g))[i]? = some (.int .i64 0) := by
      have hk : i / 2 < (List.replicate n x).length := by rw [List.length_replicate]; omega
      have h3 := flat_at hg (List.replicate n x) (i / 2) (i % 2) hk (by omega)
      rw [show i / 2 * 2 + i % 2 = i by omega] at h3
      unfold vals
      rw [List.getElem?_map, h3, List.getElem_replicate, hx]
      have : i % 2 = 0 ∨ i % 2 = 1 := by omega
      rcases this with e | e <;> rw [e] <;> rfl
    rw [List.getElem?_eq_getElem h2] at e1
    rw [Option.some.inj e1]
    simp only [madeCells, Array.getElem_toList, Array.getElem_map, Array.getElem_range]
    have : i % 2 = 0 ∨ i % 2 = 1 := by omega
    rcases this with e | e <;> simp [e]
theorem OwnR.put2p {E : TypeId} {w : World} {B b m c : Nat} {M : List Page} (h : OwnR 2 E Page.l w B (.slice (some ⟨b, 0, none⟩) m c) M) (hm : m = M.length) {k : Nat} (hk : k < M.length) (x : Page) :
    OwnR 2 E Page.l ((w.setCell ⟨b, k * 2, none⟩ (.int .i64 x.p)).setCell ⟨b, k * 2 + 1, none⟩ (.int .i64 x.t)) B (.slice (some ⟨b, 0, none⟩) m c) (M.set k x) := by
  have h1 := h.put page_l hm hk (j := 0) (by decide) ⟨x.p, M[k].t⟩ x.p rfl
  have h2 := h1.put page_l (by rw [List.length_set]; exact hm) (by rw [List.length_set]; exact hk) (j := 1) (by decide) x x.t (by rw [List.getElem_set_self]; try rfl)
  rw [List.set_set] at h2
  exact h2
def BlankPost (C R : Int) (n : Nat) (w : World) (e : Ending) (w' : World) : Prop :=
  ∃ g : Nat, e = .returned (.agg #[.int .i64 C, .int .i64 R, .slice (some ⟨g, 0, none⟩) n n]) ∧ w.heap.size < g ∧ OwnR 2 79 Page.l w' g (.slice (some ⟨g, 0, none⟩) n n) (List.replicate n ⟨0, 0⟩) ∧ Below w.heap.size w w'
set_option maxRecDepth 100000 in
set_option maxHeartbeats 4000000 in
theorem blank_any (C R : Int) (n : Nat) (w : World) (h : C * R = n) (hn : n ≤ 100000) :
    Calls Tryz.prog 41 #[.agg #[.int .i64 C, .int .i64 R]] w (BlankPost C R n w) := by
  have hmk := fun W => run_make_rowX (t := 43) Tryz.underlying43 info_page .i64 .i64 n (by omega) (by omega) W
  have hz2 : (Value.agg #[.int .i64 0, .int .i64 0]).cells = #[.int .i64 0, .int .i64 0] := rfl
  rw [hz2] at hmk
  have HC := Lib.hid (fun W => cells_any C R n W h (by omega) (by omega))
  have bx := (BoxAt.new w #[.int .i64 C, .int .i64 R] 73).alloc (.cells #[.int .i64 0, .int .i64 0, .slice none 0 0] 45)
  have br := BoxAt.new (w.alloc (.cells #[.int .i64 C, .int .i64 R] 73)) #[.int .i64 0, .int .i64 0, .slice none 0 0] 45
  simp at br
  have hB1 := ((Below.refl w.heap.size w).alloc (Nat.le_refl _) (.cells #[.int .i64 C, .int .i64 R] 73)).alloc (by simp) (.cells #[.int .i64 0, .int .i64 0, .slice none 0 0] 45)
  obtain ⟨w1, hw1⟩ : ∃ w1, w1 = (w.alloc (.cells #[.int .i64 C, .int .i64 R] 73)).alloc (.cells #[.int .i64 0, .int .i64 0, .slice none 0 0] 45) := ⟨_, rfl⟩
  rw [← hw1] at bx br hB1
  have W1 := Lib.hid hw1
  clear hw1 hz2 h
  have c0 := bx.cell 0; have c1 := bx.cell 1
  have hbl := bx.lt
  simp at c0 c1
  go_enter Tryz.func41, Tryz.ntmps41
  go_wp2_with fail
  rw [← W1.out]
  go_region_held3 (fun w' => w'.cell? ⟨w.heap.size, 0, none⟩ = some (.int .i64 C) ∧ w'.cell? ⟨w.heap.size, 1, none⟩ = some (.int .i64 R)) (first | exact ⟨j0, j1⟩ | exact ⟨l0, l1⟩ | go_keep)
    (first | (go_at_call 25; refine (HC.out _).mono ?_; rintro e w2 ⟨rfl, hb2⟩; have hq2 : Below w1.heap.size w1 w2 := (Below.refl _ w1).drew.trans hb2; have j0 := (hq2.cell (p := ⟨w.heap.size, 0, none⟩) hbl).trans c0; have j1 := (hq2.cell (p := ⟨w.heap.size, 1, none⟩) hbl).trans c1; have l0 := World.new_ne w2 _ j0; have l1 := World.new_ne w2 _ j1; have br2 := br.below hq2; have r0 := br2.cell 0; have r1 := br2.cell 1; have r2 := br2.cell 2; have z := fun j => br2.free j; have hrl := br2.lt; simp at r0 r1 r2))
  obtain ⟨g, hg⟩ : ∃ g, w2.heap.size = g := ⟨_, rfl⟩
  have hgl : w.heap.size < g := by rw [← hg]; exact Nat.lt_of_succ_lt hrl
  have hB3 : Below w.heap.size w (((w2.setCell ⟨w.heap.size + 1, 0, none⟩ (.int .i64 C)).setCell ⟨w.heap.size + 1, 1, none⟩ (.int .i64 R)).setCell ⟨w.heap.size + 1, 2, none⟩ (.slice (some ⟨g, 0, none⟩) n n)) :=
    (((hB1.trans (hq2.mono (B' := w.heap.size) hB1.size)).setCell (p := ⟨w.heap.size + 1, 0, none⟩) (by show w.heap.size ≤ w.heap.size + 1; omega) _).setCell (p := ⟨w.heap.size + 1, 1, none⟩) (by show w.heap.size ≤ w.heap.size + 1; omega) _).setCell (p := ⟨w.heap.size + 1, 2, none⟩) (by show w.heap.size ≤ w.heap.size + 1; omega) _
  have hO := OwnR.made2 (E := 79) page_l (((w2.setCell ⟨w.heap.size + 1, 0, none⟩ (.int .i64 C)).setCell ⟨w.heap.size + 1, 1, none⟩ (.int .i64 R)).setCell ⟨w.heap.size + 1, 2, none⟩ (.slice (some ⟨g, 0, none⟩) n n)) ⟨0, 0⟩ rfl n (by omega)
  rw [World.size_setCell, World.size_setCell, World.size_setCell, hg] at hO
  have hB4 := hB3.alloc hB3.size (.cells (madeCells #[.int .i64 0, .int .i64 0] (n * 2)) 79)
  have bq := (((br2.set 0 (.int .i64 C)).set 1 (.int .i64 R)).set 2 (.slice (some ⟨g, 0, none⟩) n n)).alloc (.cells (madeCells #[.int .i64 0, .int .i64 0] (n * 2)) 79)
  have u0 := bq.cell 0; have u1 := bq.cell 1; have u2 := bq.cell 2
  simp at u0 u1 u2
  rw [hg]
  clear hmk
  go_wp2
  refine bodyPost_ret (v := .agg #[.int .i64 C, .int .i64 R, .slice (some ⟨g, 0, none⟩) n n]) ?_ rfl ?_
  · simp [results, Tryz.results41, go_sem, u0, u1, u2]
  · exact ⟨g, rfl, hgl, hO, hB4⟩
def schD (C R : Int) (L : List Cell) : Int × Int := if (checkSc C R L).2 = 0 then (C, R) else (0, 0)
def frontL (C R : Int) (L : List Cell) : List Page := if (checkSc C R L).2 = 0 then frontTo L L.length else []
def backL (C R : Int) (L : List Cell) : List Page := if (checkSc C R L).2 = 0 then backTo C.toNat L R.toNat 0 else []
def FvPost (w : World) (E : Int) (D : Int × Int) (M : List Page) (e : Ending) (w' : World) : Prop :=
  ∃ (a : Option Addr) (n c : Nat), e = .returned (.tuple #[.agg #[.int .i64 D.1, .int .i64 D.2, .slice a n c], .int .i64 E]) ∧ n = M.length ∧ RowsAt 2 Page.l w' a M ∧ (a = none → c = 0) ∧ Below w.heap.size w w'
def frontMix (L : List Cell) (k : Nat) : List Page := frontTo L k ++ List.replicate (L.length - k) ⟨0, 0⟩
theorem frontMix_len {L : List Cell} {k : Nat} (hk : k ≤ L.length) : (frontMix L k).length = L.length := by
  unfold frontMix; rw [List.length_append, frontTo_len hk, List.length_replicate]; omega
theorem frontMix_set {L : List Cell} {k : Nat} (hk : k < L.length) : (frontMix L k).set k (frontCell L[k]) = frontMix L (k + 1) := by
  unfold frontMix
  obtain ⟨m, hm⟩ : ∃ m, L.length - k = m + 1 := ⟨L.length - k - 1, by omega⟩
  rw [List.set_append_right _ _ (by rw [frontTo_len (by omega)]; exact Nat.le_refl _), frontTo_len (by omega), Nat.sub_self, hm, List.replicate_succ, List.set_cons_zero, show L.length - (k + 1) = m by omega, ← frontTo_succ hk, List.append_assoc]; rfl
theorem frontMix_end (L : List Cell) : frontMix L L.length = frontTo L L.length := by unfold frontMix; simp
theorem opp_opp {C R k : Nat} (b : Bool) (hC : 1 ≤ C) (hk : k < C * R) : oppN C R (oppN C R k b) b = k := by
  have h1 : k % C < C := Nat.mod_lt _ hC
  have h2 : k / C < R := Nat.div_lt_of_lt_mul hk
  have hi : k / C * C + k % C = k := by rw [Nat.mul_comm]; exact Nat.div_add_mod k C
  obtain ⟨q, hq⟩ : ∃ q, k / C = q := ⟨_, rfl⟩
  obtain ⟨r, hr⟩ : ∃ r, k % C = r := ⟨_, rfl⟩
  rw [hq] at h2 hi
  rw [hr] at h1 hi
  cases b
  · have e1 : (q * C + (C - 1 - r)) / C = q := by rw [Nat.mul_comm, Nat.mul_add_div (by omega), Nat.div_eq_of_lt (by omega), Nat.add_zero]
    have e2 : (q * C + (C - 1 - r)) % C = C - 1 - r := by rw [Nat.mul_comm, Nat.mul_add_mod, Nat.mod_eq_of_lt (by omega)]
    have e3 : oppN C R k false = q * C + (C - 1 - r) := by unfold oppN; rw [if_neg (by simp), hq, hr]
    rw [e3]; unfold oppN; rw [if_neg (by simp), e1, e2, show C - 1 - (C - 1 - r) = r by omega, hi]
  · have e1 : ((R - 1 - q) * C + r) / C = R - 1 - q := by rw [Nat.mul_comm, Nat.mul_add_div (by omega), Nat.div_eq_of_lt h1, Nat.add_zero]
    have e2 : ((R - 1 - q) * C + r) % C = r := by rw [Nat.mul_comm, Nat.mul_add_mod, Nat.mod_eq_of_lt h1]
    have e3 : oppN C R k true = (R - 1 - q) * C + r := by unfold oppN; rw [if_pos rfl, hq, hr]
    rw [e3]; unfold oppN; rw [if_pos rfl, e1, e2, show R - 1 - (R - 1 - q) = q by omega, hi]
/-- The pages of the back, those of the first k cells laid. -/
def backMix (C R : Nat) (L : List Cell) (k : Nat) : List Page := (List.range L.length).map fun i => if oppN C R i false < k then backCell (L.getD (oppN C R i false) default) else ⟨0, 0⟩
theorem backMix_len (C R : Nat) (L : List Cell) (k : Nat) : (backMix C R L k).length = L.length := by simp [backMix]
theorem backMix_zero (C R : Nat) (L : List Cell) : backMix C R L 0 = List.replicate L.length ⟨0, 0⟩ := by
  unfold backMix
  apply List.ext_getElem
  · simp
  · intro i h1 h2; simp
theorem backMix_set {C R : Nat} {L : List Cell} {k : Nat} (hC : 1 ≤ C) (hlen : L.length = C * R) (hk : k < L.length) : (backMix C R L k).set (oppN C R k false) (backCell L[k]) = backMix C R L (k + 1) := by
  apply List.ext_getElem
  · rw [List.length_set, backMix_len, backMix_len]
  · intro i h1 h2
    have hi : i < L.length := by rw [backMix_len] at h2; exact h2
    rw [List.getElem_set]
    by_cases e : oppN C R k false = i
    · rw [if_pos e]
      have e2 : oppN C R i false = k := by rw [← e]; exact opp_opp false hC (by rw [← hlen]; exact hk)
      simp [backMix, e2, hk]
    · rw [if_neg e]
      have e2 : oppN C R i false ≠ k := fun e2 => e (by rw [← e2]; exact opp_opp false hC (by rw [← hlen]; exact hi))
      simp only [backMix, List.getElem_map, List.getElem_range]
      by_cases h3 : oppN C R i false < k
      · rw [if_pos h3, if_pos (by omega)]
      · rw [if_neg h3, if_neg (by omega)]
theorem backMix_end {C R : Nat} {L : List Cell} (hC : 1 ≤ C) (hlen : L.length = C * R) : backMix C R L L.length = backTo C L R 0 := by
  unfold backMix backTo
  rw [Nat.add_zero, hlen, Nat.mul_comm R C]
  apply List.map_congr_left
  intro i hi
  have hi : i < C * R := by simpa using hi
  rw [if_pos (oppN_lt false hC hi)]
  unfold oppN; rw [if_neg (by simp)]
end Go.Proofs.YtgoandhlcekmiaaGreatDoor

namespace Go.Proofs.YtgoandhlcekmiaaGreatDoor
open Go.RowKit

def halfC (C : Nat) (b : Bool) : Nat := if b = true then C else C / 2
def halfR (R : Nat) (b : Bool) : Nat := if b = true then R / 2 else R
def evenB (C R : Nat) (b : Bool) : Bool := if b = true then R % 2 == 0 else C % 2 == 0
set_option maxHeartbeats 1000000 in
theorem half_any (C R : Nat) (b : Bool) (w : World) (hC : C ≤ 8) (hR : R ≤ 8) :
    Calls Tryz.prog 49 #[.agg #[.int .i64 C, .int .i64 R], .bool b] w fun e w' => e = .returned (.tuple #[.agg #[.int .i64 (halfC C b), .int .i64 (halfR R b)], .bool (evenB C R b)]) ∧ Below w.heap.size w w' := by
  have q1 : (C : Int).tdiv 2 = ((C / 2 : Nat) : Int) := by rw [Int.tdiv_eq_ediv_of_nonneg (by omega)]; exact (Int.natCast_ediv C 2).symm
  have q2 : (R : Int).tdiv 2 = ((R / 2 : Nat) : Int) := by rw [Int.tdiv_eq_ediv_of_nonneg (by omega)]; exact (Int.natCast_ediv R 2).symm
  have m1 : (C : Int).tmod 2 = ((C % 2 : Nat) : Int) := by rw [Int.tmod_eq_emod_of_nonneg (by omega)]; exact (Int.natCast_emod C 2).symm
  have m2 : (R : Int).tmod 2 = ((R % 2 : Nat) : Int) := by rw [Int.tmod_eq_emod_of_nonneg (by omega)]; exact (Int.natCast_emod R 2).symm
  obtain ⟨c2, h1⟩ : ∃ n, C / 2 = n := ⟨_, rfl⟩
  obtain ⟨r2, h2⟩ : ∃ n, R / 2 = n := ⟨_, rfl⟩
  obtain ⟨cm, h3⟩ : ∃ n, C % 2 = n := ⟨_, rfl⟩
  obtain ⟨rm, h4⟩ : ∃ n, R % 2 = n := ⟨_, rfl⟩
  have hcl : c2 ≤ 8 ∧ r2 ≤ 8 ∧ cm < 2 ∧ rm < 2 := by omega
  rw [h1] at q1; rw [h2] at q2; rw [h3] at m1; rw [h4] at m2
  have hB := ((Below.refl w.heap.size w).alloc (Nat.le_refl _) (.cells #[.int .i64 C, .int .i64 R] 73)).alloc (by simp) (.cells #[.int .i64 0, .int .i64 0] 73)
  obtain ⟨hc0, hc1, hc2, hc3⟩ := hcl
  cases b
  · have HE : Hid (halfC C false = c2 ∧ halfR R false = R ∧ evenB C R false = ((cm : Int) == 0)) := Lib.hid (by
      unfold halfC halfR evenB; rw [if_neg (by simp), if_neg (by simp), if_neg (by simp), h1, h3]
      exact ⟨rfl, rfl, by rw [Bool.eq_iff_iff]; simp⟩)
    rw [HE.out.1, HE.out.2.1, HE.out.2.2]
    clear h1 h2 h3 h4 q2 m2
    go_enter Tryz.func49, Tryz.ntmps49
    go_wp2
    go_region
    go_wp2
    refine bodyPost_ret (v := .tuple #[.agg #[.int .i64 c2, .int .i64 R], .bool ((cm : Int) == 0)]) (by simp [results, Tryz.results49, go_sem]) rfl ⟨rfl, ?_⟩
    (repeat (first | exact Below.refl _ _ | refine Below.alloc ?_ (by simp <;> omega) _ | refine Below.setCell ?_ (by simp <;> omega) _ | refine below_drewN ?_ _ | refine Below.drew ?_))
  · have HE : Hid (halfC C true = C ∧ halfR R true = r2 ∧ evenB C R true = ((rm : Int) == 0)) := Lib.hid (by
      unfold halfC halfR evenB; rw [if_pos rfl, if_pos rfl, if_pos rfl, h2, h4]
      exact ⟨rfl, rfl, by rw [Bool.eq_iff_iff]; simp⟩)
    rw [HE.out.1, HE.out.2.1, HE.out.2.2]
    clear h1 h2 h3 h4 q1 m1
    go_enter Tryz.func49, Tryz.ntmps49
    go_wp2
    go_region
    go_wp2
    refine bodyPost_ret (v := .tuple #[.agg #[.int .i64 C, .int .i64 r2], .bool ((rm : Int) == 0)]) (by simp [results, Tryz.results49, go_sem]) rfl ⟨rfl, ?_⟩
    (repeat (first | exact Below.refl _ _ | refine Below.alloc ?_ (by simp <;> omega) _ | refine Below.setCell ?_ (by simp <;> omega) _ | refine below_drewN ?_ _ | refine Below.drew ?_))
/-- A cell as it is seen when its sheet is turned over. -/
def ovCell (b : Bool) (x : Cell) : Cell := ⟨x.b, xr x.bt (roundB b), x.f, xr x.ft (roundB b)⟩
set_option maxRecDepth 100000 in
set_option maxHeartbeats 16000000 in
theorem overturned_any (x : Cell) (b : Bool) (w : World) (h1 : Bit x.ft) (h2 : Bit x.bt) :
    Calls Tryz.prog 50 #[.agg #[.int .i64 x.f, .int .i64 x.ft, .int .i64 x.b, .int .i64 x.bt], .bool b] w (AggPost (.agg #[.int .i64 x.b, .int .i64 (xr x.bt (roundB b)), .int .i64 x.f, .int .i64 (xr x.ft (roundB b))]) w) := by
  obtain ⟨f, ft, bk, bt⟩ := x
  have H1 : Hid (Bit ft) := Lib.hid h1
  have H2 : Hid (Bit bt) := Lib.hid h2
  have bx := (BoxAt.new w #[.int .i64 f, .int .i64 ft, .int .i64 bk, .int .i64 bt] 57).alloc (.cells #[.int .i64 0, .int .i64 0, .int .i64 0, .int .i64 0] 57)
  have br := BoxAt.new (w.alloc (.cells #[.int .i64 f, .int .i64 ft, .int .i64 bk, .int .i64 bt] 57)) #[.int .i64 0, .int .i64 0, .int .i64 0, .int .i64 0] 57
  simp at br
  have hB1 := ((Below.refl w.heap.size w).alloc (Nat.le_refl _) (.cells #[.int .i64 f, .int .i64 ft, .int .i64 bk, .int .i64 bt] 57)).alloc (by simp) (.cells #[.int .i64 0, .int .i64 0, .int .i64 0, .int .i64 0] 57)
  obtain ⟨w1, hw1⟩ : ∃ w1, w1 = (w.alloc (.cells #[.int .i64 f, .int .i64 ft, .int .i64 bk, .int .i64 bt] 57)).alloc (.cells #[.int .i64 0, .int .i64 0, .int .i64 0, .int .i64 0] 57) := ⟨_, rfl⟩
  rw [← hw1] at bx br hB1
  have W1 := Lib.hid hw1
  clear hw1 h1 h2
  have c0 := bx.cell 0; have c1 := bx.cell 1; have c2 := bx.cell 2; have c3 := bx.cell 3
  have hbl := bx.lt
  simp at c0 c1 c2 c3
  go_enter Tryz.func50, Tryz.ntmps50
  go_wp2_with (go_at_call 45; refine (roundIf2 b _).mono ?_; rintro e w' ⟨rfl, rfl⟩)
  rw [← W1.out]
  have hq : Below w1.heap.size w1 w1.drew := (Below.refl _ w1).drew
  have jn0 := World.new_ne _ _ c0; have jn1 := World.new_ne _ _ c1; have jn2 := World.new_ne _ _ c2; have jn3 := World.new_ne _ _ c3
  have r0 := br.cell 0; have r1 := br.cell 1; have r2 := br.cell 2; have r3 := br.cell 3
  have hrl := br.lt
  simp at r0 r1 r2 r3
  go_region_held3 (fun w' => w'.cell? ⟨w.heap.size, 0, none⟩ = some (.int .i64 f) ∧ w'.cell? ⟨w.heap.size, 1, none⟩ = some (.int .i64 ft) ∧ w'.cell? ⟨w.heap.size, 2, none⟩ = some (.int .i64 bk) ∧ w'.cell? ⟨w.heap.size, 3, none⟩ = some (.int .i64 bt)) (first | exact ⟨j0, j1, j2, j3⟩ | go_keep)
    (first
      | (go_at_call 44; refine (backOf_any ⟨f, ft, bk, bt⟩ _).mono ?_; rintro e v ⟨rfl, hbv⟩; have hq := hq.trans (hbv.mono hq.size); have j0 := (hq.cell (p := ⟨w.heap.size, 0, none⟩) hbl).trans c0; have j1 := (hq.cell (p := ⟨w.heap.size, 1, none⟩) hbl).trans c1; have j2 := (hq.cell (p := ⟨w.heap.size, 2, none⟩) hbl).trans c2; have j3 := (hq.cell (p := ⟨w.heap.size, 3, none⟩) hbl).trans c3; have jn0 := World.new_ne _ _ j0; have jn1 := World.new_ne _ _ j1; have jn2 := World.new_ne _ _ j2; have jn3 := World.new_ne _ _ j3; have bq := br.below hq; have z := fun j => bq.free j; have g0 := bq.cell 0; have g1 := bq.cell 1; have g2 := bq.cell 2; have g3 := bq.cell 3; have gl := bq.lt; simp at g0 g1 g2 g3)
      | (go_at_call 42; refine (frontOf_any ⟨f, ft, bk, bt⟩ _).mono ?_; rintro e v ⟨rfl, hbv⟩; have hq := hq.trans (hbv.mono hq.size); have j0 := (hq.cell (p := ⟨w.heap.size, 0, none⟩) hbl).trans c0; have j1 := (hq.cell (p := ⟨w.heap.size, 1, none⟩) hbl).trans c1; have j2 := (hq.cell (p := ⟨w.heap.size, 2, none⟩) hbl).trans c2; have j3 := (hq.cell (p := ⟨w.heap.size, 3, none⟩) hbl).trans c3; have jn0 := World.new_ne _ _ j0; have jn1 := World.new_ne _ _ j1; have jn2 := World.new_ne _ _ j2; have jn3 := World.new_ne _ _ j3; have bq := br.below hq; have z := fun j => bq.free j; have g0 := bq.cell 0; have g1 := bq.cell 1; have g2 := bq.cell 2; have g3 := bq.cell 3; have gl := bq.lt; simp at g0 g1 g2 g3)
      | (go_at_call 43; refine (turned_any ⟨bk, bt⟩ (roundB b) _ H2.out (roundB_bit b)).mono ?_; rintro e v ⟨rfl, hbv⟩; have hq := hq.trans (hbv.mono hq.size); have j0 := (hq.cell (p := ⟨w.heap.size, 0, none⟩) hbl).trans c0; have j1 := (hq.cell (p := ⟨w.heap.size, 1, none⟩) hbl).trans c1; have j2 := (hq.cell (p := ⟨w.heap.size, 2, none⟩) hbl).trans c2; have j3 := (hq.cell (p := ⟨w.heap.size, 3, none⟩) hbl).trans c3; have jn0 := World.new_ne _ _ j0; have jn1 := World.new_ne _ _ j1; have jn2 := World.new_ne _ _ j2; have jn3 := World.new_ne _ _ j3; have bq := br.below hq; have z := fun j => bq.free j; have g0 := bq.cell 0; have g1 := bq.cell 1; have g2 := bq.cell 2; have g3 := bq.cell 3; have gl := bq.lt; simp at g0 g1 g2 g3)
      | (go_at_call 43; refine (turned_any ⟨f, ft⟩ (roundB b) _ H1.out (roundB_bit b)).mono ?_; rintro e v ⟨rfl, hbv⟩; have hq := hq.trans (hbv.mono hq.size); have j0 := (hq.cell (p := ⟨w.heap.size, 0, none⟩) hbl).trans c0; have j1 := (hq.cell (p := ⟨w.heap.size, 1, none⟩) hbl).trans c1; have j2 := (hq.cell (p := ⟨w.heap.size, 2, none⟩) hbl).trans c2; have j3 := (hq.cell (p := ⟨w.heap.size, 3, none⟩) hbl).trans c3; have jn0 := World.new_ne _ _ j0; have jn1 := World.new_ne _ _ j1; have jn2 := World.new_ne _ _ j2; have jn3 := World.new_ne _ _ j3; have bq := br.below hq; have z := fun j => bq.free j; have g0 := bq.cell 0; have g1 := bq.cell 1; have g2 := bq.cell 2; have g3 := bq.cell 3; have gl := bq.lt; simp at g0 g1 g2 g3)
      | (go_at_call 26; refine (cellOf_any ⟨bk, xr bt (roundB b)⟩ ⟨f, xr ft (roundB b)⟩ _).mono ?_; rintro e v ⟨rfl, hbv⟩; have hq := hq.trans (hbv.mono hq.size); have j0 := (hq.cell (p := ⟨w.heap.size, 0, none⟩) hbl).trans c0; have j1 := (hq.cell (p := ⟨w.heap.size, 1, none⟩) hbl).trans c1; have j2 := (hq.cell (p := ⟨w.heap.size, 2, none⟩) hbl).trans c2; have j3 := (hq.cell (p := ⟨w.heap.size, 3, none⟩) hbl).trans c3; have jn0 := World.new_ne _ _ j0; have jn1 := World.new_ne _ _ j1; have jn2 := World.new_ne _ _ j2; have jn3 := World.new_ne _ _ j3; have bq := br.below hq; have z := fun j => bq.free j; have g0 := bq.cell 0; have g1 := bq.cell 1; have g2 := bq.cell 2; have g3 := bq.cell 3; have gl := bq.lt; simp at g0 g1 g2 g3))
  all_goals
    go_wp2_with fail
    refine bodyPost_ret (v := .agg #[.int .i64 bk, .int .i64 (xr bt (roundB b)), .int .i64 f, .int .i64 (xr ft (roundB b))]) ?_ rfl ⟨rfl, ?_⟩
    · simp [results, Tryz.results50, go_sem, g0, g1, g2, g3]
    · exact ((((hB1.trans (hq.mono (B' := w.heap.size) hB1.size)).setCell (p := ⟨w.heap.size + 1, 0, none⟩) (by show w.heap.size ≤ w.heap.size + 1; omega) _).setCell (p := ⟨w.heap.size + 1, 1, none⟩) (by show w.heap.size ≤ w.heap.size + 1; omega) _).setCell (p := ⟨w.heap.size + 1, 2, none⟩) (by show w.heap.size ≤ w.heap.size + 1; omega) _).setCell (p := ⟨w.heap.size + 1, 3, none⟩) (by show w.heap.size ≤ w.heap.size + 1; omega) _
end Go.Proofs.YtgoandhlcekmiaaGreatDoor
