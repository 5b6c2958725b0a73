/-
  Nothing known; the test of a fount's frame; learning all sorts of a fount; the check of a fount.
-/
import Derived.Test.YtjkcomafgkabeaaDoorA6
namespace Go.Proofs.YtjkcomafgkabeaaDoor
open Go.RowKit Go.Maps

def FreshMaps (w : World) (e : Ending) (w' : World) : Prop :=
  ∃ b1 b2, e = .returned (.agg #[.map (some b1), .map (some b2)]) ∧ KnownAt w' b1 b2 [] ∧ w.heap.size ≤ b1 ∧ w.heap.size ≤ b2 ∧ Below w.heap.size w w'

set_option maxHeartbeats 400000 in
theorem nothingKnown_any (w : World) : Calls Tryd.prog 90 #[] w (FreshMaps w) := by
  have hmm := @run_makeMap Tryd.prog
  go_enter Tryd.func90, Tryd.ntmps90
  go_wp2
  refine bodyPost_ret (v := .agg #[.map (some (w.heap.size + 1)), .map (some (w.heap.size + 2))]) (by simp [results, Tryd.results90, go_sem]) rfl ⟨w.heap.size + 1, w.heap.size + 2, rfl, ⟨by omega, .map [], .map [], ?_, ?_, IdxOk.start _, rfl, IdxOk.start _, fun x hx => by cases hx⟩, by omega, by omega, ?_⟩
  · simpa using (World.ownsMap_made (H := Unit) (w.alloc (.cells #[.map (some (w.heap.size + 1)), .map (some (w.heap.size + 1 + 1))] 97)) Tryd.prog 9 (plainElem Tryd.prog 3)).alloc (.map #[] 0)
  · simpa using (World.ownsMap_made (H := Unit) ((w.alloc (.cells #[.map (some (w.heap.size + 1)), .map (some (w.heap.size + 1 + 1))] 97)).alloc (.map #[] 0)) Tryd.prog 9 (plainElem Tryd.prog 3))
  · exact (((Below.refl _ _).alloc (Nat.le_refl _) _).alloc (by simp) _).alloc (by simp <;> omega) _

theorem frame_name {nm : ByteArray} {body : Int} {n : Nat} (h : isNameB nm = false) : frameErr nm body n = 4 := by unfold frameErr; rw [if_pos h]
theorem frame_body {nm : ByteArray} {body : Int} {n : Nat} (h : isNameB nm = true) (h2 : body < 1 ∨ 144 < body) : frameErr nm body n = 2 := by unfold frameErr; rw [if_neg (by simp [h]), if_pos (inB_no h2)]
theorem frame_len {nm : ByteArray} {body : Int} {n : Nat} (h : isNameB nm = true) (h2 : 1 ≤ body) (h3 : body ≤ 144) : frameErr nm body n = if n = 0 then 10 else if 120 < n then 8 else 0 := by
  unfold frameErr; rw [if_neg (by simp [h]), if_neg (by rw [inB_eq h2 h3]; simp)]

set_option maxRecDepth 100000 in
set_option maxHeartbeats 400000 in
theorem errorOfFrame_any (nm : ByteArray) (body : Int) (a : Option Addr) (n c : Nat) (w : World) (hs : nm.size ≤ maxLen) (hn : n ≤ maxLen) :
    Calls Tryd.prog 96 #[.agg #[.string nm, .int .i64 body, .slice a n c]] w fun e w' => e = .returned (.int .i64 (frameErr nm body n)) ∧ Below w.heap.size w w' := by
  unfold maxLen at hn
  cases h1 : isNameB nm
  · have HE := Lib.hid (frame_name (body := body) (n := n) h1)
    go_enter Tryd.func96, Tryd.ntmps96
    go_wp2_with (go_at_call 107; refine (isName_any _ _ hs).mono ?_; rintro e w' ⟨rfl, rfl⟩)
    go_ret
    exact ⟨ret_int HE.out.symm, (Below.refl _ _).alloc (Nat.le_refl _) _⟩
  by_cases h2 : body < 1 ∨ 144 < body
  · have HE := Lib.hid (frame_body (n := n) h1 h2)
    go_enter Tryd.func96, Tryd.ntmps96
    go_wp2_with (go_at_call 107; refine (isName_any _ _ hs).mono ?_; rintro e w' ⟨rfl, rfl⟩)
    all_goals first | (exfalso; omega) | (exfalso; (simp at *) <;> omega) | skip
    all_goals go_ret
    all_goals exact ⟨ret_int HE.out.symm, (Below.refl _ _).alloc (Nat.le_refl _) _⟩
  have h2a : 1 ≤ body := by omega
  have h2b : body ≤ 144 := by omega
  have HE := Lib.hid (frame_len (n := n) h1 h2a h2b)
  clear h2
  by_cases h3 : n = 0
  · have h3' : ((n : Int) == 0) = true := by simpa using h3
    have H3 := Lib.hid h3; clear h3
    go_enter Tryd.func96, Tryd.ntmps96
    go_wp2_with (go_at_call 107; refine (isName_any _ _ hs).mono ?_; rintro e w' ⟨rfl, rfl⟩)
    go_ret
    exact ⟨ret_int (by rw [HE.out, if_pos H3.out]), (Below.refl _ _).alloc (Nat.le_refl _) _⟩
  · have h3' : ((n : Int) == 0) = false := by simpa using h3
    by_cases h4 : 120 < n
    · go_enter Tryd.func96, Tryd.ntmps96
      go_wp2_with (go_at_call 107; refine (isName_any _ _ hs).mono ?_; rintro e w' ⟨rfl, rfl⟩)
      go_ret
      exact ⟨ret_int (by rw [HE.out, if_neg h3, if_pos h4]), (Below.refl _ _).alloc (Nat.le_refl _) _⟩
    · go_enter Tryd.func96, Tryd.ntmps96
      go_wp2_with (go_at_call 107; refine (isName_any _ _ hs).mono ?_; rintro e w' ⟨rfl, rfl⟩)
      go_ret
      exact ⟨ret_int (by rw [HE.out, if_neg h3, if_neg h4]), (Below.refl _ _).alloc (Nat.le_refl _) _⟩

/-- The four cells of a sort lie at p. -/
def SortAt (w : World) (p : Addr) (x : TS) : Prop :=
  w.cell? p = some (.string x.name) ∧ w.cell? ⟨p.block, p.off + 1, none⟩ = some (.string x.text) ∧ w.cell? ⟨p.block, p.off + 2, none⟩ = some (.int .i64 x.kind) ∧ w.cell? ⟨p.block, p.off + 3, none⟩ = some (.int .i64 x.width)
def SortsAt (w : World) (a : Option Addr) (l : List TS) : Prop :=
  ∀ k, k < l.length → ∃ ad, a = some ad ∧ ad.block < w.heap.size ∧ SortAt w (ad.add (k * 4)) (l.getD k noTS)
def OkF (f : FT) : Prop := f.name.size ≤ maxLen ∧ f.sorts.length ≤ maxLen ∧ ∀ x ∈ f.sorts, x.name.size ≤ maxLen ∧ x.text.size ≤ maxLen
theorem add_block (a : Addr) (n : Nat) : (a.add n).block = a.block := by unfold Addr.add; split <;> rfl
theorem SortAt.below {w w' : World} {p : Addr} {x : TS} {B : Nat} (h : SortAt w p x) (hb : Below B w w') (hB : p.block < B) : SortAt w' p x :=
  ⟨(hb.cell hB).trans h.1, (hb.cell (p := ⟨_, _, none⟩) hB).trans h.2.1, (hb.cell (p := ⟨_, _, none⟩) hB).trans h.2.2.1, (hb.cell (p := ⟨_, _, none⟩) hB).trans h.2.2.2⟩
theorem SortsAt.below {w w' : World} {a : Option Addr} {l : List TS} (h : SortsAt w a l) (hb : Below w.heap.size w w') : SortsAt w' a l := fun k hk => by
  obtain ⟨ad, e, hlt, hs⟩ := h k hk
  exact ⟨ad, e, Nat.lt_of_lt_of_le hlt hb.size, hs.below hb (by rw [add_block]; exact hlt)⟩
theorem SortsAt.at_ {w : World} {a : Option Addr} {l : List TS} {k : Nat} (h : SortsAt w a l) (hk : k < l.length) : ∃ ad, a = some ad ∧ ad.block < w.heap.size ∧ SortAt w (ad.add (k * 4)) (l.getD k noTS) := h k hk
theorem OkF.at_ {f : FT} (h : OkF f) {k : Nat} (hk : k < f.sorts.length) : (f.sorts.getD k noTS).name.size ≤ maxLen ∧ (f.sorts.getD k noTS).text.size ≤ maxLen := by
  rw [getD_eq hk]; exact h.2.2 _ (List.getElem_mem hk)
def fVal (f : FT) (a : Option Addr) (c : Nat) : Value := .agg #[.string f.name, .int .i64 f.body, .slice a f.sorts.length c]

end Go.Proofs.YtjkcomafgkabeaaDoor
