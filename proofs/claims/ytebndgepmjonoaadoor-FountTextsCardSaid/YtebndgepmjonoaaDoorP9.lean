/-
  The lines of a printed fount, and their words.
-/
import Derived.Test.YtebndgepmjonoaaDoorP8
namespace Go.Proofs.YtebndgepmjonoaaDoor
open Go.RowKit Go.Maps

def GoodW (a : List UInt8) : Prop := a ≠ [] ∧ ∀ c ∈ a, 33 ≤ (c.toNat : Int)
theorem GoodW.ok {a : List UInt8} (h : GoodW a) : OkW a := ⟨h.1, fun c hc => by have := h.2 c hc; unfold blB; exact decide_eq_false (by omega)⟩
theorem join_no10 : ∀ (ws : List (List UInt8)), (∀ a ∈ ws, GoodW a) → (10 : UInt8) ∉ joinB ws := by
  intro ws
  induction ws with
  | nil => intro _ h; cases h
  | cons a r ih =>
    intro hw h
    rw [join_cons] at h
    have e10 : ((10 : UInt8).toNat : Int) = 10 := rfl
    rcases List.mem_append.1 h with h | h
    · have := (hw a (by simp)).2 _ h; omega
    · cases r with
      | nil => cases h
      | cons b r =>
        rcases List.mem_cons.1 h with h | h
        · exact absurd h (by decide)
        · exact ih (fun x hx => hw x (by simp [hx])) h
def sWords (y : TS) : List (List UInt8) := if y.kind = 3 then [kindWord y.kind, y.name.data.toList, Lib.itoa y.width] else [kindWord y.kind, y.name.data.toList, y.text.data.toList, Lib.itoa y.width]
def hWords (f : FT) : List (List UInt8) := [fountW.data.toList, f.name.data.toList, Lib.itoa f.body]
theorem sortLine_eq (y : TS) : sortLine y = joinB (sWords y) ++ [10] := by
  unfold sortLine sWords
  split
  · simp [joinB]
  · simp [joinB]
theorem print_zero (f : FT) : printN f 0 = joinB (hWords f) ++ [10] := by
  unfold printN hWords
  simp [joinB, fountW]
theorem print_all (f : FT) : ∀ k, k ≤ f.sorts.length → printN f k = joinB (hWords f) ++ 10 :: (f.sorts.take k).flatMap sortLine := by
  intro k
  induction k with
  | zero => intro _; rw [print_zero]; simp
  | succ k ih =>
    intro hk
    show printN f k ++ sortLine (f.sorts.getD k noTS) = _
    rw [ih (by omega), take_snoc (by omega), List.flatMap_append, getD_eq (by omega)]
    simp
theorem itoa_nat {n : Int} (h : 0 ≤ n) : Lib.itoa n = Lib.decDigits n.toNat := by unfold Lib.itoa; rw [if_neg (by omega)]
theorem itoa_good {n : Int} (h : 1 ≤ n) (h2 : n ≤ 100000) : GoodW (Lib.itoa n) ∧ digsB (Lib.itoa n) ∧ (Lib.itoa n).headD 0 ≠ 48 ∧ valL (Lib.itoa n) = n ∧ 1 ≤ (Lib.itoa n).length ∧ (Lib.itoa n).length ≤ 7 := by
  rw [itoa_nat (by omega)]
  have hd := dec_digs n.toNat
  have hp := dec_pos n.toNat
  have hl := dec_len 6 n.toNat (by omega)
  refine ⟨⟨fun e => by rw [e] at hp; simp at hp, fun c hc => by have := hd c hc; omega⟩, hd, dec_head (by omega), ?_, hp, hl⟩
  rw [dec_val]; omega
theorem name_good {s : ByteArray} (h : isNameB s = true) : GoodW s.data.toList := by
  have h2 := h
  unfold isNameB at h2
  simp only [Bool.and_eq_true, decide_eq_true_eq] at h2
  obtain ⟨⟨⟨a, b⟩, c⟩, d⟩ := h2
  refine ⟨fun e => ?_, fun c hc => ?_⟩
  · have := len_data s
    rw [e] at this
    simp at this
    omega
  · unfold nmsB at d
    have := List.all_eq_true.1 d c hc
    unfold nmB letB digB dashB at this
    simp only [Bool.or_eq_true, decide_eq_true_eq] at this
    omega
theorem text_good {l : List TS} {k : Int} {s : ByteArray} (h : textErr l k s = 0) (hk : k = 1 ∨ k = 2) : GoodW s.data.toList := by
  obtain ⟨a, b, _⟩ := textErr_zero h
  have hs := inB_iff.1 a
  have h1 : 1 ≤ s.size := by
    unfold leastOf mostOf at hs
    rcases hk with rfl | rfl
    · simp at hs; omega
    · simp at hs; omega
  refine ⟨fun e => ?_, fun c hc => ?_⟩
  · have := len_data s
    rw [e] at this
    simp at this
    omega
  · unfold badsB at b
    have := (List.any_eq_false.1 b) c hc
    unfold badB at this
    simp at this
    omega
theorem text_space {l : List TS} {s : ByteArray} (h : textErr l 3 s = 0) : s = ⟨#[]⟩ := by
  obtain ⟨a, _⟩ := textErr_zero h
  have hs := inB_iff.1 a
  have h0 : s.size = 0 := by
    have e : mostOf 3 = 0 := rfl
    rw [e] at hs
    omega
  apply WideShapes.bytes_inj
  have := len_data s
  rw [h0] at this
  rw [List.length_eq_zero_iff.1 this]
theorem kind_good {k : Int} (h : 1 ≤ k ∧ k ≤ 3) : GoodW (kindWord k) := by
  obtain rfl | rfl | rfl : k = 1 ∨ k = 2 ∨ k = 3 := by omega
  all_goals exact ⟨by decide, by decide⟩
theorem words_good {l : List TS} {y : TS} (h : sortErr l y = 0) : ∀ a ∈ sWords y, GoodW a := by
  obtain ⟨a, b, c, d, e⟩ := sortErr_zero h
  have hk := inB_iff.1 c
  have hw := inB_iff.1 d
  have hn := name_good a
  have hi := (itoa_good hw.1 hw.2).1
  have hkk := kind_good hk
  unfold sWords
  intro x hx
  split at hx
  · simp only [List.mem_cons, List.not_mem_nil, or_false] at hx
    rcases hx with rfl | rfl | rfl <;> assumption
  · have ht := text_good e (by omega)
    simp only [List.mem_cons, List.not_mem_nil, or_false] at hx
    rcases hx with rfl | rfl | rfl | rfl <;> assumption
theorem head_good {f : FT} (hn : isNameB f.name = true) (hb : 1 ≤ f.body ∧ f.body ≤ 144) : ∀ a ∈ hWords f, GoodW a := by
  have h1 := name_good hn
  have h2 := (itoa_good hb.1 (by omega)).1
  have h3 : GoodW fountW.data.toList := ⟨by decide, by decide⟩
  unfold hWords
  intro x hx
  simp only [List.mem_cons, List.not_mem_nil, or_false] at hx
  rcases hx with rfl | rfl | rfl <;> assumption
theorem kw_data {k : Nat} (h : 1 ≤ k ∧ k ≤ 3) : (kwA k).data.toList = kindWord (k : Int) := by
  obtain rfl | rfl | rfl : k = 1 ∨ k = 2 ∨ k = 3 := by omega
  all_goals rfl
end Go.Proofs.YtebndgepmjonoaaDoor
