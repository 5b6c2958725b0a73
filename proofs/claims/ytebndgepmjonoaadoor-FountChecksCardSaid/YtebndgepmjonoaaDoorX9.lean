/-
  The law on bills: what its calls return, told alike for every case.
-/
import Derived.Test.YtebndgepmjonoaaDoorX7
import Derived.Test.YtebndgepmjonoaaDoorX8
namespace Go.Proofs.YtebndgepmjonoaaDoor
open Go.RowKit Go.Maps

def enL (f : FT) (LL : List (List Int)) : List Int := if enE f LL = 0 then enoughTo f.sorts.length LL LL.length else []
def EnU (w : World) (f : FT) (LL : List (List Int)) (e : Ending) (w' : World) : Prop :=
  Below w.heap.size w w' ∧ ∃ A cap, e = .returned (.tuple #[.slice A (enL f LL).length cap, .int .i64 (enE f LL)]) ∧ IntsAt w' A (enL f LL)
theorem nilInts (w : World) (A : Option Addr) : IntsAt w A [] := fun k hk => absurd hk (Nat.not_lt_zero k)
theorem enU_of {w : World} {f : FT} {LL : List (List Int)} {e : Ending} {w' : World} (h : EnoughPost w f LL e w') : EnU w f LL e w' := by
  obtain ⟨hb, h⟩ := h
  refine ⟨hb, ?_⟩
  rcases h with ⟨hne, rfl⟩ | ⟨heq, g, rfl, hr⟩
  · have : enL f LL = [] := by unfold enL; rw [if_neg hne]
    rw [this]
    exact ⟨none, 0, rfl, nilInts _ _⟩
  · have : enL f LL = enoughTo f.sorts.length LL LL.length := by unfold enL; rw [if_pos heq]
    rw [this, heq, enough_len]
    exact ⟨_, _, rfl, hr.ints⟩
def bilL (f : FT) (l : List Int) (t : Int) : List Int := if billE f l t = 0 then billOf l (sumOf l) t else []
def BiU (w : World) (f : FT) (l : List Int) (t : Int) (e : Ending) (w' : World) : Prop :=
  Below w.heap.size w w' ∧ ∃ A cap, e = .returned (.tuple #[.slice A (bilL f l t).length cap, .int .i64 (billE f l t)]) ∧ IntsAt w' A (bilL f l t)
set_option maxRecDepth 100000 in
set_option maxHeartbeats 1000000 in
theorem BillFor_err (f : FT) (a : Option Addr) (c : Nat) (b : Option Addr) (l : List Int) (d : Nat) (total : Int) (w : World) (hF : FAt w a f) (hX : IntsAt w b l) (hl : l.length ≤ maxLen) (h1 : casesErr f [l] ≠ 0) :
    Calls Tryd.prog 18 #[.agg #[.string f.name, .int .i64 f.body, .slice a f.sorts.length c], .slice b l.length d, .int .i64 total] w (BillPost w f l total) := by
  have hbox := lists_one (d := d) (hX.alloc (.cells #[.string f.name, .int .i64 f.body, .slice a f.sorts.length c] 24)) hl
  have hF2 := (hF.alloc (.cells #[.string f.name, .int .i64 f.body, .slice a f.sorts.length c] 24)).alloc (.cells #[.slice b l.length d] 31)
  have hB0 := ((Below.refl w.heap.size w).alloc (Nat.le_refl _) (.cells #[.string f.name, .int .i64 f.body, .slice a f.sorts.length c] 24)).alloc (by simp) (.cells #[.slice b l.length d] 31)
  have HE := Lib.hid (show billE f l total = casesErr f [l] by unfold billE; rw [if_pos h1])
  have heb : (casesErr f [l] != 0) = true := by simpa using h1
  have H1 := Lib.hid h1
  clear h1
  go_enter Tryd.func18, Tryd.ntmps18
  go_wp2_with fail
  refine (errorOfCounts_any f a c _ [⟨b, d, l⟩] _ _ hF2.ok (by exact hF2.at_) (by exact hF2.tab) (by simpa using hbox) (by unfold maxLen; simp)).mono ?_
  rintro e w1 ⟨rfl, hb⟩
  rw [show ([(⟨b, d, l⟩ : IS)].map (·.l)) = [l] from rfl]
  have hB1 := hB0.trans (hb.mono (B' := w.heap.size) (by simp <;> omega))
  clear hF2 hbox hB0 hb
  go_wp2
  go_ret2
  exact ⟨hB1, .inl ⟨by rw [HE.out]; exact H1.out, by rw [HE.out]; rfl⟩⟩
theorem biU_of {w : World} {f : FT} {l : List Int} {t : Int} {e : Ending} {w' : World} (h : BillPost w f l t e w') : BiU w f l t e w' := by
  obtain ⟨hb, h⟩ := h
  refine ⟨hb, ?_⟩
  rcases h with ⟨hne, rfl⟩ | ⟨heq, g, rfl, hr⟩
  · have : bilL f l t = [] := by unfold bilL; rw [if_neg hne]
    rw [this]
    exact ⟨none, 0, rfl, nilInts _ _⟩
  · have : bilL f l t = billOf l (sumOf l) t := by unfold bilL; rw [if_pos heq]
    rw [this, heq, bill_len]
    exact ⟨_, _, rfl, hr.ints⟩
theorem BillFor_u {f : FT} {a : Option Addr} {c : Nat} {b : Option Addr} {l : List Int} {d N : Nat} {t : Int} {w : World} (hN : N = l.length) (hF : FAt w a f) (hX : IntsAt w b l) (hl : l.length ≤ maxLen) (h20 : caseErr f l = 0 → l.length < 20) :
    Calls Tryd.prog 18 #[.agg #[.string f.name, .int .i64 f.body, .slice a f.sorts.length c], .slice b N d, .int .i64 t] w (BiU w f l t) := by
  subst hN
  by_cases h : casesErr f [l] = 0
  · exact (BillFor_any f a c b l d t w hF hX hl (h20 (by rw [← case_cases]; exact h))).mono fun _ _ h => biU_of h
  · exact (BillFor_err f a c b l d t w hF hX hl h).mono fun _ _ h => biU_of h
theorem refBill_u {f : FT} {b : Option Addr} {l : List Int} {d : Nat} {t : Int} {w : World} (hX : IntsAt w b l) (h0 : caseErr f l = 0) (hn : f.sorts.length ≤ 120) (hn0 : 0 < f.sorts.length) :
    Calls Tryd.prog 23 #[.slice b l.length d, .int .i64 t] w (BiU w f l t) := by
  have hk := (case_ok h0).2
  refine (refBillFor_any b l d f.sorts.length t w hX hk hn hn0).mono ?_
  rintro e w' ⟨hb, h⟩
  have he : billE f l t = rbE l t := by unfold billE rbE; rw [if_neg (by rw [case_cases, h0]; simp)]
  refine ⟨hb, ?_⟩
  unfold bilL
  rw [he]
  rcases h with ⟨hne, rfl⟩ | ⟨heq, g, cap, rfl, hr⟩
  · rw [if_neg hne]
    exact ⟨none, 0, rfl, nilInts _ _⟩
  · rw [if_pos heq, heq, bill_len]
    exact ⟨_, _, rfl, hr⟩
theorem Enough_u {f : FT} {a : Option Addr} {c : Nat} {A : Option Addr} {T ls : List IS} {C : Nat} {w : World} (hm : T.map (·.l) = ls.map (·.l)) (hF : FAt w a f) (hL : ListsAt w A T) (hls : ls.length ≤ 1000) :
    Calls Tryd.prog 16 #[.agg #[.string f.name, .int .i64 f.body, .slice a f.sorts.length c], .slice A ls.length C] w (EnU w f (ls.map (·.l))) := by
  have hl : T.length = ls.length := by have := congrArg List.length hm; simpa using this
  have h := (Enough_any f a c A T C w hF hL (by omega)).mono fun _ _ h => enU_of h
  rw [hl, hm] at h
  exact h
theorem refEnough_u {f : FT} {a : Option Addr} {c : Nat} {A : Option Addr} {ls : List IS} {C : Nat} {w : World} (hc : f.sorts.length ≤ c) (hF : FAt w a f) (hL : ListsAt w A ls) (hls : ls.length ≤ 1000) (h0 : (checkF f).2 = 0) :
    Calls Tryd.prog 22 #[.agg #[.string f.name, .int .i64 f.body, .slice a f.sorts.length c], .slice A ls.length C] w (EnU w f (ls.map (·.l))) :=
  (refEnough_any f a c A ls C w hc hF hL hls h0).mono fun _ _ h => enU_of h
end Go.Proofs.YtebndgepmjonoaaDoor
