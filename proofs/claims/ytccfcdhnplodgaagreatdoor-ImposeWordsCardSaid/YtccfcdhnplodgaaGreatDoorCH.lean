/-
  Package impose: FormatFolds.
-/
import Derived.Test.YtccfcdhnplodgaaGreatDoorCG
import Derived.Test.YtccfcdhnplodgaaGreatDoorIQ
namespace Go.Proofs.YtccfcdhnplodgaaGreatDoor
open Go.RowKit

/-- The words that are written so far, and nothing behind them. -/
def wordsTo (L : List Fold) (k : Nat) : List Value := (L.map fun f => Value.string (bs (wordM f))).take k ++ List.replicate (L.length - k) (.string ⟨#[]⟩)
theorem wordsTo_len (L : List Fold) {k : Nat} (hk : k ≤ L.length) : (wordsTo L k).length = L.length := by
  unfold wordsTo
  rw [List.length_append, List.length_take, List.length_map, List.length_replicate]; omega
theorem wordsTo_zero (L : List Fold) : (wordsTo L 0).toArray = madeCells #[Value.string ⟨#[]⟩] (L.length * 1) := by
  apply Array.ext'
  simp [madeCells, wordsTo, Nat.mod_one]
  apply List.ext_getElem
  · simp
  · intro i h1 h2; simp
theorem wordsTo_set (L : List Fold) {k : Nat} (hk : k < L.length) : (wordsTo L k).set k (.string (bs (wordM L[k]))) = wordsTo L (k + 1) := by
  unfold wordsTo
  have hl : ((L.map fun f => Value.string (bs (wordM f))).take k).length = k := by rw [List.length_take, List.length_map]; omega
  have hm : k < (L.map fun f => Value.string (bs (wordM f))).length := by rw [List.length_map]; exact hk
  rw [List.set_append_right k _ (by omega), hl, Nat.sub_self, show L.length - k = (L.length - (k + 1)) + 1 by omega, List.replicate_succ, List.set_cons_zero, List.take_succ_eq_append_getElem hm, List.append_assoc, List.getElem_map]
  rfl
theorem wordsTo_end (L : List Fold) : wordsTo L L.length = L.map fun f => Value.string (bs (wordM f)) := by
  unfold wordsTo
  rw [Nat.sub_self, List.take_of_length_le (by rw [List.length_map]; exact Nat.le_refl _)]
  simp
theorem word_len {f : Fold} (h : OkI f.c) : (wordM f).length ≤ 22 := by
  unfold wordM
  rw [List.length_cons]
  split
  · simp
  · have := itoa_len21 h; omega
theorem join_len : ∀ {L : List (List UInt8)}, (∀ x ∈ L, x.length ≤ 22) → (Lib.join L [32]).length ≤ 23 * L.length
  | [], _ => by simp [Lib.join]
  | [x], h => by rw [join_one]; have := h x List.mem_cons_self; simp; omega
  | x :: y :: r, h => by
    have h1 := join_len (L := y :: r) fun z hz => h z (List.mem_cons_of_mem _ hz)
    have h2 := h x List.mem_cons_self
    rw [join_cons]
    simp only [List.length_append, List.length_cons, List.length_nil] at h1 ⊢
    omega
theorem fmt_len {L : List Fold} (h : ∀ f ∈ L, OkI f.c) : (fmtM L).length ≤ 23 * L.length := by
  have := join_len (L := L.map wordM) fun x hx => by
    obtain ⟨f, hf, rfl⟩ := List.mem_map.1 hx
    exact word_len (h f hf)
  rwa [List.length_map] at this
theorem info_strW : (Tryz.prog.info? 9).map (fun i => (i.zero, i.size, i.bytes)) = some (some (.string ⟨#[]⟩), 1, 16) := by kernel_rfl
theorem joinW_any (g : Nat) (L : List Fold) (w : World) (bx : BoxAt w g (L.map fun f => Value.string (bs (wordM f))).toArray 9) (hl : L.length ≤ 20) (hc : ∀ f ∈ L, OkI f.c) :
    Calls Tryz.prog 19 #[.slice (some ⟨g, 0, none⟩) L.length L.length, .string ⟨#[32]⟩] w (StrPost w (fmtM L)) := by
  have h1 : ((L.map fun f => bs (wordM f)).map (·.data.toList)) = L.map wordM := by
    rw [List.map_map]; rfl
  have h2 := fmt_len hc
  have h := Tryz.strings_Join g 0 L.length (L.map fun f => bs (wordM f)) ⟨#[32]⟩ w (fun j x hx => by
    have := bx.cell j
    rw [Nat.zero_add, this]
    rw [List.getElem?_map] at hx
    obtain ⟨f, hf, rfl⟩ := Option.map_eq_some_iff.1 hx
    simp [hf]) bx.lt (by rw [List.length_map]; omega) (by rw [List.length_map]; exact Nat.le_refl _) (by
      rw [h1]
      have h2 : (Lib.join (L.map wordM) [32]).length ≤ 23 * L.length := h2
      show (Lib.join (L.map wordM) [32]).length ≤ _
      omega)
  rw [h1, List.length_map] at h
  exact h.mono fun e w' he => he
set_option maxRecDepth 100000 in
set_option maxHeartbeats 4000000 in
theorem formatFolds_any (a : Option Addr) (L : List Fold) (n c : Nat) (w : World) (hn : n = L.length) (hL : RowsAt 2 Fold.l w a L) (hl : n ≤ 20) (hc : ∀ f ∈ L, OkI f.c) (hP : WF w) :
    Calls Tryz.prog 5 #[.slice a n c] w (StrPost w (fmtM L)) := by
  have hmk := fun W => run_make_rowX Tryz.underlying56 info_strW .i64 .i64 n (by omega) (by omega) W
  obtain ⟨g, hg⟩ : ∃ g, w.heap.size = g := ⟨_, rfl⟩
  have HN := Lib.hid hn; have HC := Lib.hid hc
  have bx0 : BoxAt (w.alloc (.cells (madeCells #[Value.string ⟨#[]⟩] (n * 1)) 9)) g (wordsTo L 0).toArray 9 := by
    rw [wordsTo_zero, ← hn, ← hg]; exact BoxAt.new _ _ _
  have hb0 := (Below.refl w.heap.size w).alloc (Nat.le_refl _) (.cells (madeCells #[Value.string ⟨#[]⟩] (n * 1)) 9)
  rw [Nat.mul_one] at bx0 hb0
  have HG := Lib.hid hg
  have hgw : w.heap.size ≤ g := by omega
  clear hn hc
  go_enter Tryz.func5, Tryz.ntmps5
  go_wp2_with fail
  go_loopw [11] (fun i wr => ∃ k : Nat, k ≤ n ∧ i = .int .i64 k ∧ BoxAt wr g (wordsTo L k).toArray 9 ∧ Below w.heap.size w wr) (fun i _ => n - (intOf i).toNat)
  case atStart => exact ⟨0, Nat.zero_le _, rfl, bx0, hb0⟩
  case round =>
    obtain ⟨k, hk, rfl, bx, hB⟩ := hrel
    clear bx0 hb0
    have hfr := bx.free
    have hlt0 := bx.lt
    by_cases hlt : k < n
    · have hkL : k < L.length := by have := HN.out; omega
      obtain ⟨ad, rfl, had, s0, s1⟩ := (hL.below hB).fold hkL
      obtain ⟨x, ex⟩ : ∃ x, x = L[k] := ⟨_, rfl⟩
      have hxi := HC.out L[k] (List.getElem_mem hkL)
      rw [← ex] at s0 s1 hxi
      have hkn : (k : Int) < (n : Int) := by omega
      have hcI : (wordsTo L k).toArray.size = n := by
        have := HN.out
        have h2 := wordsTo_len L (k := k) (by omega)
        rw [List.size_toArray, h2]; omega
      have HX : Hid ((wordsTo L k).toArray.setIfInBounds k (.string (bs (wordM x))) = (wordsTo L (k + 1)).toArray) := Lib.hid (by rw [ex, ← wordsTo_set L hkL]; simp)
      obtain ⟨cs, hcs⟩ : ∃ cs, cs = (wordsTo L k).toArray := ⟨_, rfl⟩
      rw [← hcs] at bx HX hcI
      have bxa := bx.alloc (.cells #[.int .i64 x.k, .int .i64 x.c] 58)
      have hBa := hB.alloc hB.size (.cells #[.int .i64 x.k, .int .i64 x.c] 58)
      have hwf := hP.below hBa
      clear hcs ex
      go_wp2_with fail
      refine (wordOf_any x _ hxi hwf).mono ?_
      rintro e w2 ⟨rfl, hb2⟩
      have bx2 := bxa.below hb2
      have f2 := bx2.free
      have c2 := bx2.cell k
      have hlt2 := bx2.lt
      rw [Array.getElem?_eq_getElem (by omega)] at c2
      go_wp2
      go_roundw
      case rel => exact ⟨k + 1, by omega, by go_num, by have := bx2.set k (.string (bs (wordM x))); rw [HX.out] at this; exact this, (hBa.trans (hb2.mono (B' := w.heap.size) hBa.size)).setCell (by omega) _⟩
      case measure => simp [intOf]; omega
    · have hkn : ¬ (k : Int) < (n : Int) := by omega
      have hkL : k = L.length := by have := HN.out; omega
      have HE := Lib.hid (show (wordsTo L k).toArray = (L.map fun f => Value.string (bs (wordM f))).toArray by rw [hkL, wordsTo_end])
      rw [HE.out] at bx
      have HJ := Lib.hid (joinW_any g L wr bx (by have := HN.out; omega) HC.out)
      rw [← HN.out] at HJ
      go_wp2_with (go_at_call 19; refine HJ.out.mono ?_; rintro e w2 ⟨rfl, hb2⟩)
      go_ret
      exact ⟨rfl, hB.trans (hb2.mono (B' := w.heap.size) hB.size)⟩
end Go.Proofs.YtccfcdhnplodgaaGreatDoor
