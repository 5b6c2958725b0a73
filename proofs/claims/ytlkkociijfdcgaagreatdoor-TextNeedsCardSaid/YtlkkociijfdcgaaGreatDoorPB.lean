/-
  law02's Few and WordErr; the reference's FountErr.
-/
import Derived.Test.YtlkkociijfdcgaaGreatDoorPA
import Derived.Test.YtlkkociijfdcgaaGreatDoorZY
import Derived.Test.YtlkkociijfdcgaaGreatDoorYN
namespace Go.Proofs.YtlkkociijfdcgaaGreatDoor
open Go.RowKit Go.Maps Go.Shelf

/-- At most 20 sorts, or too many, with short names and texts. -/
def few2X (x : TS) : Bool := decide (30 < x.name.size ∨ 10 < x.text.size)
def few2B (f : FT) : Bool := !(decide (30 < f.name.size ∨ (20 < f.sorts.length ∧ f.sorts.length ≤ 120) ∨ 122 < f.sorts.length)) && !(f.sorts.any few2X)
set_option maxRecDepth 100000 in
set_option maxHeartbeats 1000000 in
theorem few2_any (f : FT) (a : Option Addr) (c : Nat) (w : World) (hO : OkF f) (hF : SortsAt w a f.sorts) :
    Calls Tryz.prog 36 #[.agg #[.string f.name, .int .i64 f.body, .slice a f.sorts.length c]] w fun e w' => e = .returned (.bool (few2B f)) ∧ Below w.heap.size w w' := by
  have hO1 := hO.1
  have hO2 := hO.2.1
  unfold maxLen at hO1 hO2
  have hB0 := (Below.refl w.heap.size w).alloc (Nat.le_refl _) (.cells #[.string f.name, .int .i64 f.body, .slice a f.sorts.length c] 59)
  by_cases h1 : 30 < f.name.size ∨ (20 < f.sorts.length ∧ f.sorts.length ≤ 120) ∨ 122 < f.sorts.length
  · have HE := Lib.hid (show few2B f = false by unfold few2B; rw [decide_eq_true h1]; try rfl)
    go_enter Tryz.func36, Tryz.ntmps36
    go_wp2
    all_goals first | (exfalso; omega) | (exfalso; (simp at *) <;> omega) | skip
    all_goals go_ret
    all_goals exact ⟨ret_bool HE.out.symm, hB0⟩
  · have HE := Lib.hid (show few2B f = !(f.sorts.any few2X) by unfold few2B; rw [decide_eq_false h1]; try rfl)
    have hF1 := hF.alloc (.cells #[.string f.name, .int .i64 f.body, .slice a f.sorts.length c] 59)
    have g1 : f.name.size ≤ 30 := by omega
    have g2 : f.sorts.length ≤ 20 ∨ 120 < f.sorts.length := by omega
    have g3 : f.sorts.length ≤ 122 := by omega
    clear h1
    rcases g2 with g2 | g2
    all_goals
      go_enter Tryz.func36, Tryz.ntmps36
      go_wp2
      go_loop [3] (fun i => ∃ k : Nat, k ≤ f.sorts.length ∧ i = .int .i64 k ∧ Hid (firstAt (fun i => few2X (f.sorts.getD i noTS)) (f.sorts.length - 0) 0 = firstAt (fun i => few2X (f.sorts.getD i noTS)) (f.sorts.length - k) k)) (fun i => f.sorts.length - (intOf i).toNat)
      case atStart => exact ⟨0, Nat.zero_le _, rfl, Lib.hid rfl⟩
      case round =>
        obtain ⟨k, hk, rfl, HR⟩ := hrel
        by_cases hlt : k < f.sorts.length
        · obtain ⟨ad, rfl, had, s0, s1, s2, s3⟩ := hF1.at_ hlt
          have hx := hO.at_ hlt
          obtain ⟨x, ex⟩ : ∃ x, x = f.sorts.getD k noTS := ⟨_, rfl⟩
          rw [← ex] at s0 s1 s2 s3 hx
          have EX := Lib.hid ex; clear ex s2 s3
          obtain ⟨hx1, hx2⟩ := hx
          unfold maxLen at hx1 hx2
          by_cases hq : 30 < x.name.size ∨ 10 < x.text.size
          · have HS := Lib.hid (firstAt_stop (q := fun i => few2X (f.sorts.getD i noTS)) hlt (by show few2X _ = true; rw [← EX.out]; exact decide_eq_true hq))
            go_wp2
            all_goals first | (exfalso; omega) | (exfalso; (simp at *) <;> omega) | skip
            all_goals go_ret
            all_goals exact ⟨ret_bool (by rw [HE.out, any_firstAt (p := few2X) (HR.out.trans HS.out)]; rfl), hB0⟩
          · have HS := Lib.hid (firstAt_go (q := fun i => few2X (f.sorts.getD i noTS)) hlt (by show few2X _ = false; rw [← EX.out]; exact decide_eq_false hq))
            have q1 : x.name.size ≤ 30 := by omega
            have q2 : x.text.size ≤ 10 := by omega
            clear hq
            go_wp2
            go_round
            case rel => exact ⟨k + 1, by omega, by go_num, Lib.hid (HR.out.trans HS.out)⟩
            case measure => simp [intOf]; omega
        · have HS := Lib.hid (firstAt_end (q := fun i => few2X (f.sorts.getD i noTS)) hlt)
          go_wp2
          go_ret
          exact ⟨ret_bool (by rw [HE.out, any_firstAt (p := few2X) (HR.out.trans HS.out)]; rfl), hB0⟩

theorem few2_len {f : FT} (h : few2B f = true) : f.sorts.length ≤ 122 := by
  unfold few2B at h
  rw [Bool.and_eq_true] at h
  have h1 := h.1
  rw [Bool.not_eq_true'] at h1
  have := of_decide_eq_false h1
  omega
/-- A fount as it comes in. -/
structure FIn (w : World) (f : FT) (a : Option Addr) (c : Nat) : Prop where
  at_ : FAt w a f
  cap : f.sorts.length ≤ c
  nil : a = none → c = 0
theorem FIn.below {w w' : World} {f : FT} {a : Option Addr} {c : Nat} (h : FIn w f a c) (hb : Below w.heap.size w w') : FIn w' f a c := ⟨h.at_.below hb, h.cap, h.nil⟩
theorem refFountErr_any (f : FT) (a : Option Addr) (c : Nat) (w : World) (hF : FIn w f a c) :
    Calls Tryz.prog 40 #[.agg #[.string f.name, .int .i64 f.body, .slice a f.sorts.length c]] w fun e w' => e = .returned (.int .i64 (checkF f).2) ∧ Below w.heap.size w w' := by
  have hb0 := (Below.refl w.heap.size w).alloc (Nat.le_refl _) (.cells #[.string f.name, .int .i64 f.body, .slice a f.sorts.length c] 59)
  have HC := Lib.hid (refCheckFount_any f a c _ hF.cap hF.at_.ok (hF.at_.at_.below hb0))
  go_enter Tryz.func40, Tryz.ntmps40
  go_wp2_with fail
  refine HC.out.mono ?_
  rintro e w2 ⟨rfl, hb2⟩
  have hlow := hb0.trans (hb2.mono hb0.size)
  clear HC hb2 hb0
  go_wp2
  go_ret
  exact ⟨rfl, hlow⟩
end Go.Proofs.YtlkkociijfdcgaaGreatDoor
/-
  FirstMissing: the program's and the reference's.
-/
namespace Go.Proofs.YtlkkociijfdcgaaGreatDoor
open Go.RowKit Go.Maps Go.Shelf

end Go.Proofs.YtlkkociijfdcgaaGreatDoor

/-
  FirstMissing: the reference's walk.
-/
namespace Go.Proofs.YtlkkociijfdcgaaGreatDoor
open Go.RowKit Go.Maps Go.Shelf

end Go.Proofs.YtlkkociijfdcgaaGreatDoor

namespace Go.Proofs.YtlkkociijfdcgaaGreatDoor
open Go.RowKit Go.Maps Go.Shelf

/-- The boxes of a fount and of rules, as a law's walk goes on. -/
structure FRK (w : World) (f : FT) (a : Option Addr) (c : Nat) (r : RU) (wr : World) : Prop where
  fb : wr.heap[w.heap.size]? = some (.cells #[.string f.name, .int .i64 f.body, .slice a f.sorts.length c] 59 (0, 0))
  rb : wr.heap[w.heap.size + 1]? = some (.cells #[.slice r.ps.a r.ps.l.length r.ps.c, .slice r.es.a r.es.l.length r.es.c, .slice r.bs.a r.bs.l.length r.bs.c, .int .i64 r.left, .int .i64 r.right] 24 (0, 0))
  low : Below w.heap.size w wr
section
variable {w : World} {f : FT} {a : Option Addr} {c : Nat} {r : RU} {wr wr' : World}
theorem FRK.below (h : FRK w f a c r wr) (hb : Below wr.heap.size wr wr') : FRK w f a c r wr' := ⟨(hb.block _ (heap_lt h.fb)).trans h.fb, (hb.block _ (heap_lt h.rb)).trans h.rb, h.low.trans (hb.mono h.low.size)⟩
theorem FRK.fc (h : FRK w f a c r wr) : wr.cell? ⟨w.heap.size, 0, none⟩ = some (.string f.name) ∧ wr.cell? ⟨w.heap.size, 1, none⟩ = some (.int .i64 f.body) ∧ wr.cell? ⟨w.heap.size, 2, none⟩ = some (.slice a f.sorts.length c) :=
  ⟨cell_of_row wr _ 0 _ _ (0, 0) h.fb, cell_of_row wr _ 1 _ _ (0, 0) h.fb, cell_of_row wr _ 2 _ _ (0, 0) h.fb⟩
theorem FRK.rc (h : FRK w f a c r wr) : wr.cell? ⟨w.heap.size + 1, 0, none⟩ = some (.slice r.ps.a r.ps.l.length r.ps.c) ∧ wr.cell? ⟨w.heap.size + 1, 1, none⟩ = some (.slice r.es.a r.es.l.length r.es.c) ∧ wr.cell? ⟨w.heap.size + 1, 2, none⟩ = some (.slice r.bs.a r.bs.l.length r.bs.c) ∧ wr.cell? ⟨w.heap.size + 1, 3, none⟩ = some (.int .i64 r.left) ∧ wr.cell? ⟨w.heap.size + 1, 4, none⟩ = some (.int .i64 r.right) :=
  ⟨cell_of_row wr _ 0 _ _ (0, 0) h.rb, cell_of_row wr _ 1 _ _ (0, 0) h.rb, cell_of_row wr _ 2 _ _ (0, 0) h.rb, cell_of_row wr _ 3 _ _ (0, 0) h.rb, cell_of_row wr _ 4 _ _ (0, 0) h.rb⟩
theorem FRK.lt (h : FRK w f a c r wr) : w.heap.size + 1 < wr.heap.size := heap_lt h.rb
end
theorem frk_start (w : World) (f : FT) (a : Option Addr) (c : Nat) (r : RU) : FRK w f a c r ((w.alloc (.cells #[.string f.name, .int .i64 f.body, .slice a f.sorts.length c] 59)).alloc (.cells #[.slice r.ps.a r.ps.l.length r.ps.c, .slice r.es.a r.es.l.length r.es.c, .slice r.bs.a r.bs.l.length r.bs.c, .int .i64 r.left, .int .i64 r.right] 24)) := by
  refine ⟨heap_keep (heap_new _ _), ?_, ((Below.refl _ _).alloc (Nat.le_refl _) _).alloc (by simp) _⟩
  have h := heap_new (w.alloc (.cells #[.string f.name, .int .i64 f.body, .slice a f.sorts.length c] 59)) (.cells #[.slice r.ps.a r.ps.l.length r.ps.c, .slice r.es.a r.es.l.length r.es.c, .slice r.bs.a r.bs.l.length r.bs.c, .int .i64 r.left, .int .i64 r.right] 24)
  rw [World.size_alloc] at h
  exact h
theorem barsOf_same {r r' : RU} (h : SameR r r') (s : ByteArray) : barsOf r' s = barsOf r s := by unfold barsOf; rw [h.2.2.1]
theorem wordSet_same {f : FT} {r r' : RU} (h : SameR r r') (s : ByteArray) : wordSet f r' s = wordSet f r s := by unfold wordSet wordP; rw [barsOf_same h]
theorem longSet_len {p : PC} : ∀ (k pl : Nat) (acc l : List Int), longSet p k pl acc = some l → pl ≤ p.t.size → l.length + pl ≤ acc.length + p.t.size
  | 0, _, _, _, h, _ => by cases h
  | k + 1, pl, acc, l, h, hpl => by
    unfold longSet at h
    by_cases h1 : pl < p.t.size
    · rw [if_pos h1] at h
      by_cases h2 : 0 < (longAt p pl).2
      · rw [if_pos h2] at h
        have hok := (longAt_ok p pl hpl).resolve_left (by omega)
        have ih := longSet_len k _ _ l h hok.2.2
        rw [List.length_append, List.length_singleton] at ih
        omega
      · rw [if_neg h2] at h; cases h
    · rw [if_neg h1] at h
      injection h with h
      subst h
      omega
theorem wordSet_len {f : FT} {r : RU} {s : ByteArray} {l : List Int} (h : wordSet f r s = some l) : l.length ≤ s.size := by
  have h1 := longSet_len _ _ _ _ h (Nat.zero_le _)
  have h2 : (wordP f none 0 r s 0 s.size).t.size ≤ s.size := by
    show (s.extract 0 s.size).size ≤ s.size
    rw [ext_whole]
    exact Nat.le_refl _
  have h3 : ([] : List Int).length = 0 := rfl
  omega
/-- What text.SortsOf answers. -/
def SortsAns (w : World) (E : Int) (o : Option (List Int)) (e : Ending) (w' : World) : Prop :=
  Below w.heap.size w w' ∧ if E ≠ 0 then e = .returned (.tuple #[.slice none 0 0, .int .i64 E]) else match o with
    | none => e = .returned (.tuple #[.slice none 0 0, .int .i64 6])
    | some l => ∃ A k, e = .returned (.tuple #[.slice A l.length k, .int .i64 0]) ∧ IRow w' w.heap.size (.slice A l.length k) l
end Go.Proofs.YtlkkociijfdcgaaGreatDoor

namespace Go.Proofs.YtlkkociijfdcgaaGreatDoor
open Go.RowKit Go.Maps Go.Shelf

def boxSt (f : FT) (a : Option Addr) (c : Nat) (r : RU) (g b1 b2 : Nat) : Obj := .cells #[.string f.name, .int .i64 f.body, .slice a f.sorts.length c, .slice (some ⟨g, 0, none⟩) r.ps.l.length r.ps.l.length, .map (some b1), .map (some b2), .int .i64 r.left, .int .i64 r.right] 183
/-- A setter's box in a world. -/
structure StK (w : World) (B : Nat) (f : FT) (a : Option Addr) (c : Nat) (r : RU) (g b1 b2 : Nat) (wr : World) : Prop where
  box : wr.heap[B]? = some (.cells #[.string f.name, .int .i64 f.body, .slice a f.sorts.length c, .slice (some ⟨g, 0, none⟩) r.ps.l.length r.ps.l.length, .map (some b1), .map (some b2), .int .i64 r.left, .int .i64 r.right] 183 (0, 0))
  low : Below w.heap.size w wr
section
variable {w wr wr' : World} {B : Nat} {f : FT} {a : Option Addr} {c : Nat} {r : RU} {g b1 b2 : Nat}
theorem StK.below (h : StK w B f a c r g b1 b2 wr) (hb : Below wr.heap.size wr wr') : StK w B f a c r g b1 b2 wr' := ⟨(hb.block _ (heap_lt h.box)).trans h.box, h.low.trans (hb.mono h.low.size)⟩
theorem StK.sc (h : StK w B f a c r g b1 b2 wr) : wr.cell? ⟨B, 0, none⟩ = some (.string f.name) ∧ wr.cell? ⟨B, 1, none⟩ = some (.int .i64 f.body) ∧ wr.cell? ⟨B, 2, none⟩ = some (.slice a f.sorts.length c) ∧ wr.cell? ⟨B, 3, none⟩ = some (.slice (some ⟨g, 0, none⟩) r.ps.l.length r.ps.l.length) ∧ wr.cell? ⟨B, 4, none⟩ = some (.map (some b1)) ∧ wr.cell? ⟨B, 5, none⟩ = some (.map (some b2)) ∧ wr.cell? ⟨B, 6, none⟩ = some (.int .i64 r.left) ∧ wr.cell? ⟨B, 7, none⟩ = some (.int .i64 r.right) :=
  ⟨cell_of_row wr _ 0 _ _ (0, 0) h.box, cell_of_row wr _ 1 _ _ (0, 0) h.box, cell_of_row wr _ 2 _ _ (0, 0) h.box, cell_of_row wr _ 3 _ _ (0, 0) h.box, cell_of_row wr _ 4 _ _ (0, 0) h.box, cell_of_row wr _ 5 _ _ (0, 0) h.box, cell_of_row wr _ 6 _ _ (0, 0) h.box, cell_of_row wr _ 7 _ _ (0, 0) h.box⟩
end
theorem stk_start (w : World) (f : FT) (a : Option Addr) (c : Nat) (r : RU) (g b1 b2 : Nat) : StK w w.heap.size f a c r g b1 b2 (w.alloc (boxSt f a c r g b1 b2)) := ⟨heap_new _ _, (Below.refl _ _).alloc (Nat.le_refl _) _⟩
set_option maxRecDepth 100000 in
set_option maxHeartbeats 2000000 in
theorem setWord_any (f : FT) (a : Option Addr) (c : Nat) (r : RU) (g b1 b2 base : Nat) (s : ByteArray) (w : World) (hFS : SortsAt w a f.sorts) (hB : BookAt w base r g b1 b2) (hf : (checkF f).2 = 0) (hs : s.size ≤ maxLen) :
    Calls Tryz.prog 116 #[setV f a c r g b1 b2, .string s] w (SortsAns w (wordErr s) (wordSet f r s)) := by
  have hK0 := stk_start w f a c r g b1 b2
  have HW := Lib.hid (fun W => errorOfWord_any s W hs)
  have hfi := fount_fine hf
  have hbp := barsOf_places r s
  by_cases h0 : wordErr s = 0
  · have hb : (wordErr s != 0) = false := by rw [h0]; try rfl
    have hsz := (word_size h0).2
    have HPO := Lib.hid (fun W (h : Below w.heap.size w W) (hB2 : BookAt W base r g b1 b2) => pieceOf_any f a c r g b1 b2 base s 0 s.size W (Nat.zero_le _) (Nat.le_refl _) hsz hB2)
    have HLO := Lib.hid (fun W (ba : Option Addr) (bc : Nat) (h : Below w.heap.size w W) (hI : IntsAt W ba (minusL (barsOf r s) (0 : Nat))) => longest_any (PC.mk f a c (s.extract 0 s.size) ba bc (minusL (barsOf r s) (0 : Nat))) W ⟨hFS.below h, hI, places_minus hbp (by decide)⟩ ⟨by show (s.extract 0 s.size).size ≤ 1000; rw [ByteArray.size_extract]; omega, hfi.2, hfi.1⟩)
    have HSM := Lib.hid (fun (ba : Option Addr) (bc : Nat) => show longP (PC.mk f a c (s.extract 0 s.size) ba bc (minusL (barsOf r s) (0 : Nat))) = wordSet f r s from longSet_same ..)
    have hbk := hB.below (hK0.low)
    have H0 := Lib.hid h0
    obtain ⟨o, ho⟩ : ∃ o, o = wordSet f r s := ⟨_, rfl⟩
    rw [← ho] at HSM ⊢
    unfold boxSt at hK0 hbk
    unfold setV at *
    unfold PC.cells at *
    dsimp only at HLO
    have E0 := Lib.hid (show s.extract 0 s.size = s from ext_whole s)
    rw [E0.out] at HPO HLO HSM
    clear ho hf hfi hbp hB hFS h0
    cases o with
    | none =>
      go_enter Tryz.func116, Tryz.ntmps116
      go_wp2_with fail
      refine (HW.out _).mono ?_
      rintro e w2 ⟨rfl, rfl⟩
      obtain ⟨c0, c1, c2, c3, c4, c5, c6, c7⟩ := hK0.sc
      go_wp2_with fail
      refine (HPO.out _ hK0.low hbk).mono ?_
      rintro e w3 ⟨hb3, ba, bc, rfl, hI3⟩
      have hK3 := hK0.below hb3
      have HL := Lib.hid (HLO.out _ ba bc hK3.low hI3)
      rw [HSM.out ba bc] at HL
      unfold PC.cells
      go_wp2_with fail
      refine HL.out.mono ?_
      intro e w4 hp4
      obtain ⟨hb4, rfl⟩ := SetPost.none hp4
      have hlow := (hK3.below hb4).low
      clear hp4 hb4 HL hK0 hbk hb3 hI3
      go_wp2_with fail
      refine (sortsOf_none none 0 0 _).mono ?_
      rintro e w5 ⟨rfl, rfl⟩
      go_wp2
      go_ret2
      exact ⟨hlow, by rw [if_neg (fun h => h H0.out)]; try rfl⟩
    | some l =>
      go_enter Tryz.func116, Tryz.ntmps116
      go_wp2_with fail
      refine (HW.out _).mono ?_
      rintro e w2 ⟨rfl, rfl⟩
      obtain ⟨c0, c1, c2, c3, c4, c5, c6, c7⟩ := hK0.sc
      go_wp2_with fail
      refine (HPO.out _ hK0.low hbk).mono ?_
      rintro e w3 ⟨hb3, ba, bc, rfl, hI3⟩
      have hK3 := hK0.below hb3
      have HL := Lib.hid (HLO.out _ ba bc hK3.low hI3)
      rw [HSM.out ba bc] at HL
      unfold PC.cells
      go_wp2_with fail
      refine HL.out.mono ?_
      intro e w4 hp4
      obtain ⟨hb4, a9, c9, rfl, hrow⟩ := SetPost.some hp4
      have hlow := (hK3.below hb4).low
      clear hp4 hb4 HL hK0 hbk hb3 hI3
      go_wp2_with fail
      refine (sortsOf_some a9 l.length c9 _).mono ?_
      rintro e w5 ⟨rfl, rfl⟩
      go_wp2
      go_ret2
      exact ⟨hlow, by rw [if_neg (fun h => h H0.out)]; exact ⟨a9, c9, rfl, hrow.mono hK3.low.size⟩⟩
  · have hb : (wordErr s != 0) = true := by simpa using h0
    have H0 := Lib.hid h0
    have hlow := hK0.low
    unfold boxSt at *
    unfold setV at *
    clear h0 hK0
    go_enter Tryz.func116, Tryz.ntmps116
    go_wp2_with fail
    refine (HW.out _).mono ?_
    rintro e w2 ⟨rfl, rfl⟩
    go_wp2
    go_ret2
    exact ⟨hlow, by rw [if_pos H0.out]; try rfl⟩
end Go.Proofs.YtlkkociijfdcgaaGreatDoor
/-
  breaksOf, wordOf: the program's words with their breaks.
-/
namespace Go.Proofs.YtlkkociijfdcgaaGreatDoor
open Go.RowKit Go.Maps Go.Shelf

theorem longSet_idx {p : PC} : ∀ (k pl : Nat) (acc l : List Int), longSet p k pl acc = some l → pl ≤ p.t.size → OkIdx acc p.f.sorts.length → OkIdx l p.f.sorts.length
  | 0, _, _, _, h, _, _ => by cases h
  | k + 1, pl, acc, l, h, hpl, ha => by
    unfold longSet at h
    by_cases h1 : pl < p.t.size
    · rw [if_pos h1] at h
      by_cases h2 : 0 < (longAt p pl).2
      · rw [if_pos h2] at h
        have hok := (longAt_ok p pl hpl).resolve_left (by omega)
        refine longSet_idx k _ _ l h hok.2.2 (fun j hj => ?_)
        rw [List.length_append, List.length_singleton] at hj
        by_cases hj2 : j < acc.length
        · obtain ⟨x, hx, e⟩ := ha j hj2
          refine ⟨x, hx, ?_⟩
          rw [List.getD_eq_getElem?_getD, List.getElem?_append_left hj2, ← List.getD_eq_getElem?_getD]
          exact e
        · obtain rfl : j = acc.length := by omega
          exact ⟨_, hok.1, by rw [List.getD_eq_getElem?_getD, List.getElem?_append_right (Nat.le_refl _), Nat.sub_self]; try rfl⟩
      · rw [if_neg h2] at h; cases h
    · rw [if_neg h1] at h
      injection h with h
      subst h
      exact ha
theorem wordSet_idx {f : FT} {r : RU} {s : ByteArray} {l : List Int} (h : wordSet f r s = some l) : OkIdx l f.sorts.length :=
  longSet_idx _ _ _ _ h (Nat.zero_le _) (fun _ hj => absurd hj (Nat.not_lt_zero _))
end Go.Proofs.YtlkkociijfdcgaaGreatDoor

/-
  wordOf: a word with its sorts and breaks.
-/
namespace Go.Proofs.YtlkkociijfdcgaaGreatDoor
open Go.RowKit Go.Maps Go.Shelf

end Go.Proofs.YtlkkociijfdcgaaGreatDoor

/-
  Words: the program's walk.
-/
namespace Go.Proofs.YtlkkociijfdcgaaGreatDoor
open Go.RowKit Go.Maps Go.Shelf

/-- Two cells that are a word's lists. -/
def WordAt (w : World) (B : Nat) (p : Addr) (x : List Int × List Int) : Prop := ∃ v1 v2, w.cell? p = some v1 ∧ w.cell? ⟨p.block, p.off + 1, none⟩ = some v2 ∧ IRow w B v1 x.1 ∧ IRow w B v2 x.2
/-- A row of n words' cells in block G, the first k of which are those of fn. -/
structure WRow (w : World) (B G n : Nat) (fn : Nat → List Int × List Int) (k : Nat) : Prop where
  row : ∃ cs : Array Value, w.heap[G]? = some (.cells cs 121 (0, 0)) ∧ cs.size = n * 2
  wds : ∀ j, j < k → WordAt w B ⟨G, j * 2, none⟩ (fn j)
section
variable {w w' : World} {B G n k : Nat} {fn : Nat → List Int × List Int}
theorem WRow.lt (h : WRow w B G n fn k) : G < w.heap.size := by
  obtain ⟨cs, h1, _⟩ := h.row
  exact heap_lt h1
theorem WRow.some_ (h : WRow w B G n fn k) {j : Nat} (hj : j < n * 2) : ∃ v, w.cell? ⟨G, j, none⟩ = some v := by
  obtain ⟨cs, h1, h2⟩ := h.row
  exact ⟨cs[j]'(by omega), by rw [cell_of_row w G j cs _ (0, 0) h1]; exact Array.getElem?_eq_getElem (by omega)⟩
theorem WRow.frozen (h : WRow w B G n fn k) (j : Nat) : w.frozen? ⟨G, j, none⟩ = false := by
  obtain ⟨cs, h1, _⟩ := h.row
  simp [World.frozen?, h1]
theorem WRow.below (h : WRow w B G n fn k) (hb : Below w.heap.size w w') : WRow w' B G n fn k := by
  have hlt := h.lt
  obtain ⟨cs, h1, h2⟩ := h.row
  refine ⟨⟨cs, (hb.block G hlt).trans h1, h2⟩, fun j hj => ?_⟩
  obtain ⟨v1, v2, c1, c2, i1, i2⟩ := h.wds j hj
  exact ⟨v1, v2, (hb.cell (p := ⟨_, _, none⟩) hlt).trans c1, (hb.cell (p := ⟨_, _, none⟩) hlt).trans c2, i1.below hb, i2.below hb⟩
theorem irow_put (h : WRow w B G n fn k) {v : Value} {l : List Int} {b : Nat} (hI : IRow w b v l) (j : Nat) (u : Value) : IRow (w.setCell ⟨G, j, none⟩ u) b v l := by
  obtain ⟨cs, h1, _⟩ := h.row
  exact own_put hI h1 (by decide) j u
theorem WRow.set_ (h : WRow w B G n fn k) {j : Nat} (hj : k * 2 ≤ j) (u : Value) : WRow (w.setCell ⟨G, j, none⟩ u) B G n fn k := by
  have h0 := h
  obtain ⟨cs, h1, h2⟩ := h.row
  refine ⟨⟨_, pat_set h1 j u, by simp [h2]⟩, fun i hi => ?_⟩
  obtain ⟨v1, v2, c1, c2, i1, i2⟩ := h.wds i hi
  exact ⟨v1, v2, by rw [cell_else (by omega)]; exact c1, by show (w.setCell ⟨G, j, none⟩ u).cell? ⟨G, i * 2 + 1, none⟩ = _; rw [cell_else (by omega)]; exact c2, irow_put h0 i1 j u, irow_put h0 i2 j u⟩
theorem WRow.same (h : WRow w B G n fn k) {j : Nat} (hj : j < n * 2) (u : Value) : (w.setCell ⟨G, j, none⟩ u).cell? ⟨G, j, none⟩ = some u := by
  obtain ⟨cs, h1, h2⟩ := h.row
  rw [cell_of_row _ G j _ _ (0, 0) (pat_set h1 j u)]
  simp [h2, hj]
theorem WRow.push (h : WRow w B G n fn k) (hk : k < n) {v1 v2 : Value} {l1 l2 : List Int} (hx : fn k = (l1, l2)) (i1 : IRow w B v1 l1) (i2 : IRow w B v2 l2) :
    WRow ((w.setCell ⟨G, k * 2, none⟩ v1).setCell ⟨G, k * 2 + 1, none⟩ v2) B G n fn (k + 1) := by
  have h1 := h.set_ (j := k * 2) (Nat.le_refl _) v1
  have h2 := h1.set_ (j := k * 2 + 1) (by omega) v2
  refine ⟨h2.row, fun i hi => ?_⟩
  by_cases e : i = k
  · subst e
    rw [hx]
    refine ⟨v1, v2, ?_, ?_, irow_put h1 (irow_put h i1 _ _) _ _, irow_put h1 (irow_put h i2 _ _) _ _⟩
    · rw [cell_else (by omega)]; exact h.same (by omega) _
    · exact h1.same (by omega) _
  · exact h2.wds i (by omega)
end
end Go.Proofs.YtlkkociijfdcgaaGreatDoor

/-
  Words: the reference's walk.
-/
namespace Go.Proofs.YtlkkociijfdcgaaGreatDoor
open Go.RowKit Go.Maps Go.Shelf

/-- A list of words that is one's own. -/
def WOwn (w : World) (B : Nat) (v : Value) (n : Nat) (fn : Nat → List Int × List Int) : Prop :=
  ∃ xs, w.ownsRow B 121 2 v n xs ∧ ∀ j, j < n → ∃ v1 v2, xs[j * 2]? = some v1 ∧ xs[j * 2 + 1]? = some v2 ∧ IRow w B v1 (fn j).1 ∧ IRow w B v2 (fn j).2
theorem own_monoG {w : World} {base base' e n size : Nat} {v : Value} {xs : List Value} (h : w.ownsRow base e size v n xs) (hB : base' ≤ base) : w.ownsRow base' e size v n xs := by
  rcases h.2 with ⟨e1, e2⟩ | ⟨g, cap, cur, e1, e2, e3, e4⟩
  · exact ⟨h.1, Or.inl ⟨e1, e2⟩⟩
  · exact ⟨h.1, Or.inr ⟨g, cap, cur, e1, Nat.le_trans hB e2, e3, e4⟩⟩
theorem WOwn.nil (w : World) (B : Nat) (fn : Nat → List Int × List Int) : WOwn w B (.slice none 0 0) 0 fn := ⟨[], World.ownsRow_nil _ _ _ _, fun _ hj => absurd hj (Nat.not_lt_zero _)⟩
theorem WOwn.below {w w' : World} {B n : Nat} {v : Value} {fn : Nat → List Int × List Int} (h : WOwn w B v n fn) (hb : Below w.heap.size w w') : WOwn w' B v n fn := by
  obtain ⟨xs, h1, h2⟩ := h
  refine ⟨xs, own_low2 h1 hb, fun j hj => ?_⟩
  obtain ⟨v1, v2, e1, e2, i1, i2⟩ := h2 j hj
  exact ⟨v1, v2, e1, e2, i1.below hb, i2.below hb⟩
theorem WOwn.mono {w : World} {B B' n : Nat} {v : Value} {fn : Nat → List Int × List Int} (h : WOwn w B v n fn) (hB : B' ≤ B) : WOwn w B' v n fn := by
  obtain ⟨xs, h1, h2⟩ := h
  refine ⟨xs, own_monoG h1 hB, fun j hj => ?_⟩
  obtain ⟨v1, v2, e1, e2, i1, i2⟩ := h2 j hj
  exact ⟨v1, v2, e1, e2, i1.mono hB, i2.mono hB⟩
end Go.Proofs.YtlkkociijfdcgaaGreatDoor

/-
  law02.words: two lists of words that are the same.
-/
namespace Go.Proofs.YtlkkociijfdcgaaGreatDoor
open Go.RowKit Go.Maps Go.Shelf

/-- A list of words as it is read: the words are those of fn. -/
def WView (w : World) (A : Option Addr) (n : Nat) (fn : Nat → List Int × List Int) : Prop :=
  ∀ j, j < n → ∃ g a1 c1 a2 c2, A = some ⟨g, 0, none⟩ ∧ g < w.heap.size ∧ w.cell? ⟨g, j * 2, none⟩ = some (.slice a1 (fn j).1.length c1) ∧ w.cell? ⟨g, j * 2 + 1, none⟩ = some (.slice a2 (fn j).2.length c2) ∧ IntsAt w a1 (fn j).1 ∧ IntsAt w a2 (fn j).2
theorem WView.below {w w' : World} {A : Option Addr} {n : Nat} {fn : Nat → List Int × List Int} (h : WView w A n fn) (hb : Below w.heap.size w w') : WView w' A n fn := fun j hj => by
  obtain ⟨g, a1, c1, a2, c2, e, hg, h1, h2, i1, i2⟩ := h j hj
  exact ⟨g, a1, c1, a2, c2, e, Nat.lt_of_lt_of_le hg hb.size, (hb.cell (p := ⟨g, j * 2, none⟩) hg).trans h1, (hb.cell (p := ⟨g, j * 2 + 1, none⟩) hg).trans h2, i1.below hb, i2.below hb⟩
theorem WView.zero (w : World) (A : Option Addr) (fn : Nat → List Int × List Int) : WView w A 0 fn := fun _ hj => absurd hj (Nat.not_lt_zero _)
end Go.Proofs.YtlkkociijfdcgaaGreatDoor

/-
  The walk of TextWords.
-/
namespace Go.Proofs.YtlkkociijfdcgaaGreatDoor
open Go.RowKit Go.Maps Go.Shelf

theorem setErr_same {f : FT} {r r' : RU} (h : SameR r r') : setErr f r' = setErr f r := by unfold setErr; rw [checkR_same h]
end Go.Proofs.YtlkkociijfdcgaaGreatDoor
