/-
  Package impose: the small functions on pages and cells; SchemeOf.
-/
import Derived.Test.YtnpehnfcccdcbaaGreatDoorKD
import Derived.Laws.ResultCell
namespace Go.Proofs.YtnpehnfcccdcbaaGreatDoor
open Go.RowKit

def Page.v (x : Page) : Value := .agg #[.int .i64 x.p, .int .i64 x.t]
def Cell.v (x : Cell) : Value := .agg #[.int .i64 x.f, .int .i64 x.ft, .int .i64 x.b, .int .i64 x.bt]
set_option maxHeartbeats 1000000 in
theorem frontOf_any (x : Cell) (w : World) : Calls Tryz.prog 47 #[.agg #[.int .i64 x.f, .int .i64 x.ft, .int .i64 x.b, .int .i64 x.bt]] w (AggPost (.agg #[.int .i64 x.f, .int .i64 x.ft]) w) := by
  go_enter Tryz.func47, Tryz.ntmps47
  go_wp2
  refine bodyPost_ret (v := .agg #[.int .i64 x.f, .int .i64 x.ft]) (by simp [results, Tryz.results47, go_sem]) rfl ⟨rfl, ?_⟩
  (repeat (first | exact Below.refl _ _ | refine Below.alloc ?_ (by simp <;> omega) _ | refine Below.setCell ?_ (by simp <;> omega) _ | refine below_drewN ?_ _ | refine Below.drew ?_))
set_option maxHeartbeats 1000000 in
theorem backOf_any (x : Cell) (w : World) : Calls Tryz.prog 48 #[.agg #[.int .i64 x.f, .int .i64 x.ft, .int .i64 x.b, .int .i64 x.bt]] w (AggPost (.agg #[.int .i64 x.b, .int .i64 x.bt]) w) := by
  go_enter Tryz.func48, Tryz.ntmps48
  go_wp2
  refine bodyPost_ret (v := .agg #[.int .i64 x.b, .int .i64 x.bt]) (by simp [results, Tryz.results48, go_sem]) rfl ⟨rfl, ?_⟩
  (repeat (first | exact Below.refl _ _ | refine Below.alloc ?_ (by simp <;> omega) _ | refine Below.setCell ?_ (by simp <;> omega) _ | refine below_drewN ?_ _ | refine Below.drew ?_))
set_option maxHeartbeats 1000000 in
theorem cellOf_any (x y : Page) (w : World) : Calls Tryz.prog 35 #[.agg #[.int .i64 x.p, .int .i64 x.t], .agg #[.int .i64 y.p, .int .i64 y.t]] w (AggPost (.agg #[.int .i64 x.p, .int .i64 x.t, .int .i64 y.p, .int .i64 y.t]) w) := by
  go_enter Tryz.func35, Tryz.ntmps35
  go_wp2
  refine bodyPost_ret (v := .agg #[.int .i64 x.p, .int .i64 x.t, .int .i64 y.p, .int .i64 y.t]) (by simp [results, Tryz.results35, go_sem]) rfl ⟨rfl, ?_⟩
  (repeat (first | exact Below.refl _ _ | refine Below.alloc ?_ (by simp <;> omega) _ | refine Below.setCell ?_ (by simp <;> omega) _ | refine below_drewN ?_ _ | refine Below.drew ?_))
set_option maxHeartbeats 1000000 in
theorem sizeOfScheme_any (C R : Int) (v : Value) (hv : ∃ a n c, v = .slice a n c) (w : World) : Calls Tryz.prog 44 #[.agg #[.int .i64 C, .int .i64 R, v]] w (AggPost (.agg #[.int .i64 C, .int .i64 R]) w) := by
  obtain ⟨a, n, c, rfl⟩ := hv
  go_enter Tryz.func44, Tryz.ntmps44
  go_wp2
  refine bodyPost_ret (v := .agg #[.int .i64 C, .int .i64 R]) (by simp [results, Tryz.results44, go_sem]) rfl ⟨rfl, ?_⟩
  (repeat (first | exact Below.refl _ _ | refine Below.alloc ?_ (by simp <;> omega) _ | refine Below.setCell ?_ (by simp <;> omega) _ | refine below_drewN ?_ _ | refine Below.drew ?_))
theorem info_cell : (Tryz.prog.info? 54).map (fun i => (i.zero, i.size, i.bytes)) = some (some (.agg #[.int .i64 0, .int .i64 0, .int .i64 0, .int .i64 0]), 4, 32) := by kernel_rfl
/-- make of a row of structs. -/
theorem run_make_rowX {t e : TypeId} {z : Value} {size bytes : Nat} (ht : Tryz.prog.underlying t = some (.slice e)) (hinfo : (Tryz.prog.info? e).map (fun i => (i.zero, i.size, i.bytes)) = some (some z, size, bytes)) (kl kc : IntKind) (n : Nat) (hbytes : bytes * n ≤ 281474976710656) (h63 : n ≤ 9223372036854775807) (w : World) :
    (Instr.makeSlice t (.int kl (n : Int)) (.int kc (n : Int))).run Tryz.prog w = .ok (.slice (some ⟨w.heap.size, 0, none⟩) n n) (w.alloc (.cells (madeCells z.cells (n * size)) e)) := by
  obtain ⟨i, hi, hzz⟩ := Option.map_eq_some_iff.1 hinfo
  simp only [Prod.mk.injEq] at hzz
  obtain ⟨hz, hs, hb⟩ := hzz
  have hb' : (i.bytes : Int) * (n : Int) ≤ 281474976710656 := by
    have h : ((i.bytes * n : Nat) : Int) ≤ 281474976710656 := by rw [hb]; omega
    rwa [Int.natCast_mul] at h
  have hr := run_make (P := Tryz.prog) w t e i z ht hi hz kl kc n n (by omega) (Int.le_refl _) hb' (by omega)
  simp only [Int.toNat_natCast, hs] at hr
  exact hr
theorem OwnR.made4 {α : Type} {E : TypeId} {g : α → List Int} (hg : ∀ x, (g x).length = 4) (w : World) (x : α) (hx : g x = [0, 0, 0, 0]) (n : Nat) (hn : n ≤ 1000000) : OwnR 4 E g (w.alloc (.cells (madeCells #[.int .i64 0, .int .i64 0, .int .i64 0, .int .i64 0] (n * 4)) E)) w.heap.size (.slice (some ⟨w.heap.size, 0, none⟩) n n) (List.replicate n x) := by
  unfold OwnR
  rw [List.length_replicate]
  have hs : (madeCells #[.int .i64 0, .int .i64 0, .int .i64 0, .int .i64 0] (n * 4)).size = n * 4 := size_madeCells _ _
  refine ⟨by simp [vals, flat_len hg], Or.inr ⟨w.heap.size, n, _, rfl, Nat.le_refl _, heap_alloc_new w _, Nat.le_refl _, by unfold maxLen; omega, hs, ?_⟩⟩
  rw [List.take_of_length_le (by rw [Array.length_toList, hs]; exact Nat.le_refl _)]
  apply List.ext_getElem
  · rw [Array.length_toList, hs]; simp [vals, flat_len hg]
  · intro i h1 h2
    have hi : i < n * 4 := by rw [Array.length_toList, hs] at h1; exact h1
    have e1 : (vals ((List.replicate n x).flatMap g))[i]? = some (.int .i64 0) := by
      have hk : i / 4 < (List.replicate n x).length := by rw [List.length_replicate]; omega
      have h3 := flat_at hg (List.replicate n x) (i / 4) (i % 4) hk (by omega)
      rw [show i / 4 * 4 + i % 4 = i by omega] at h3
      unfold vals
      rw [List.getElem?_map, h3, List.getElem_replicate, hx]
      have : i % 4 = 0 ∨ i % 4 = 1 ∨ i % 4 = 2 ∨ i % 4 = 3 := by omega
      rcases this with e | e | e | e <;> rw [e] <;> rfl
    rw [List.getElem?_eq_getElem h2] at e1
    rw [Option.some.inj e1]
    simp only [madeCells, Array.getElem_toList, Array.getElem_map, Array.getElem_range]
    have : i % 4 = 0 ∨ i % 4 = 1 ∨ i % 4 = 2 ∨ i % 4 = 3 := by omega
    rcases this with e | e | e | e <;> simp [e]
theorem OwnR.put4c {E : TypeId} {w : World} {B b m c : Nat} {M : List Cell} (h : OwnR 4 E Cell.l w B (.slice (some ⟨b, 0, none⟩) m c) M) (hm : m = M.length) {k : Nat} (hk : k < M.length) (x : Cell) :
    OwnR 4 E Cell.l ((((w.setCell ⟨b, k * 4, none⟩ (.int .i64 x.f)).setCell ⟨b, k * 4 + 1, none⟩ (.int .i64 x.ft)).setCell ⟨b, k * 4 + 2, none⟩ (.int .i64 x.b)).setCell ⟨b, k * 4 + 3, none⟩ (.int .i64 x.bt)) B (.slice (some ⟨b, 0, none⟩) m c) (M.set k x) := by
  have h1 := h.put cell_l hm hk (j := 0) (by decide) ⟨x.f, M[k].ft, M[k].b, M[k].bt⟩ x.f rfl
  have h2 := h1.put cell_l (by rw [List.length_set]; exact hm) (by rw [List.length_set]; exact hk) (j := 1) (by decide) ⟨x.f, x.ft, M[k].b, M[k].bt⟩ x.ft (by rw [List.getElem_set_self]; rfl)
  rw [List.set_set] at h2
  have h3 := h2.put cell_l (by rw [List.length_set]; exact hm) (by rw [List.length_set]; exact hk) (j := 2) (by decide) ⟨x.f, x.ft, x.b, M[k].bt⟩ x.b (by rw [List.getElem_set_self]; rfl)
  rw [List.set_set] at h3
  have h4 := h3.put cell_l (by rw [List.length_set]; exact hm) (by rw [List.length_set]; exact hk) (j := 3) (by decide) x x.bt (by rw [List.getElem_set_self]; rfl)
  rw [List.set_set] at h4
  exact h4
end Go.Proofs.YtnpehnfcccdcbaaGreatDoor
