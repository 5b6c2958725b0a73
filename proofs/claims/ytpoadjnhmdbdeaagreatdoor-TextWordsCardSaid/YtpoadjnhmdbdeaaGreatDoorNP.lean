/-
  setWord, breaksOf, wordOf: the program's words.
-/
import Derived.Test.YtpoadjnhmdbdeaaGreatDoorLJ
namespace Go.Proofs.YtpoadjnhmdbdeaaGreatDoor
open Go.RowKit Go.Maps Go.Shelf

def stCells (f : FT) (a : Option Addr) (c : Nat) (r : RU) (g b1 b2 : Nat) : Array Value := #[.string f.name, .int .i64 f.body, .slice a f.sorts.length c, .slice (some ⟨g, 0, none⟩) r.ps.l.length r.ps.l.length, .map (some b1), .map (some b2), .int .i64 r.left, .int .i64 r.right]
def boxSt (f : FT) (a : Option Addr) (c : Nat) (r : RU) (g b1 b2 : Nat) : Obj := .cells #[.string f.name, .int .i64 f.body, .slice a f.sorts.length c, .slice (some ⟨g, 0, none⟩) r.ps.l.length r.ps.l.length, .map (some b1), .map (some b2), .int .i64 r.left, .int .i64 r.right] 183
/-- A setter's box in a world. -/
structure StK (w : World) (B : Nat) (f : FT) (a : Option Addr) (c : Nat) (r : RU) (g b1 b2 : Nat) (wr : World) : Prop where
  box : wr.heap[B]? = some (.cells #[.string f.name, .int .i64 f.body, .slice a f.sorts.length c, .slice (some ⟨g, 0, none⟩) r.ps.l.length r.ps.l.length, .map (some b1), .map (some b2), .int .i64 r.left, .int .i64 r.right] 183 (0, 0))
  low : Below w.heap.size w wr
section
variable {w wr wr' : World} {B : Nat} {f : FT} {a : Option Addr} {c : Nat} {r : RU} {g b1 b2 : Nat}
theorem StK.below (h : StK w B f a c r g b1 b2 wr) (hb : Below wr.heap.size wr wr') : StK w B f a c r g b1 b2 wr' := ⟨(hb.block _ (heap_lt h.box)).trans h.box, h.low.trans (hb.mono h.low.size)⟩
theorem StK.sc (h : StK w B f a c r g b1 b2 wr) : wr.cell? ⟨B, 0, none⟩ = some (.string f.name) ∧ wr.cell? ⟨B, 1, none⟩ = some (.int .i64 f.body) ∧ wr.cell? ⟨B, 2, none⟩ = some (.slice a f.sorts.length c) ∧ wr.cell? ⟨B, 3, none⟩ = some (.slice (some ⟨g, 0, none⟩) r.ps.l.length r.ps.l.length) ∧ wr.cell? ⟨B, 4, none⟩ = some (.map (some b1)) ∧ wr.cell? ⟨B, 5, none⟩ = some (.map (some b2)) ∧ wr.cell? ⟨B, 6, none⟩ = some (.int .i64 r.left) ∧ wr.cell? ⟨B, 7, none⟩ = some (.int .i64 r.right) :=
  ⟨cell_of_row wr _ 0 _ _ (0, 0) h.box, cell_of_row wr _ 1 _ _ (0, 0) h.box, cell_of_row wr _ 2 _ _ (0, 0) h.box, cell_of_row wr _ 3 _ _ (0, 0) h.box, cell_of_row wr _ 4 _ _ (0, 0) h.box, cell_of_row wr _ 5 _ _ (0, 0) h.box, cell_of_row wr _ 6 _ _ (0, 0) h.box, cell_of_row wr _ 7 _ _ (0, 0) h.box⟩
end
theorem stk_start (w : World) (f : FT) (a : Option Addr) (c : Nat) (r : RU) (g b1 b2 : Nat) : StK w w.heap.size f a c r g b1 b2 (w.alloc (boxSt f a c r g b1 b2)) := ⟨heap_new _ _, (Below.refl _ _).alloc (Nat.le_refl _) _⟩
set_option maxRecDepth 100000 in
set_option maxHeartbeats 2000000 in
theorem setWord_any (f : FT) (a : Option Addr) (c : Nat) (r : RU) (g b1 b2 base : Nat) (s : ByteArray) (w : World) (hFS : SortsAt w a f.sorts) (hB : BookAt w base r g b1 b2) (hf : (checkF f).2 = 0) (hs : s.size ≤ maxLen) :
    Calls Tryz.prog 116 #[setV f a c r g b1 b2, .string s] w (SortsAns w (wordErr s) (wordSet f r s)) := by
  have hK0 := stk_start w f a c r g b1 b2
  have HW := Lib.hid (fun W => errorOfWord_any s W hs)
  have hfi := fount_fine hf
  have hbp := barsOf_places r s
  by_cases h0 : wordErr s = 0
  · have hb : (wordErr s != 0) = false := by rw [h0]; try rfl
    have hsz := (word_size h0).2
    have HPO := Lib.hid (fun W (h : Below w.heap.size w W) (hB2 : BookAt W base r g b1 b2) => pieceOf_any f a c r g b1 b2 base s 0 s.size W (Nat.zero_le _) (Nat.le_refl _) hsz hB2)
    have HLO := Lib.hid (fun W (ba : Option Addr) (bc : Nat) (h : Below w.heap.size w W) (hI : IntsAt W ba (minusL (barsOf r s) (0 : Nat))) => longest_any (PC.mk f a c (s.extract 0 s.size) ba bc (minusL (barsOf r s) (0 : Nat))) W ⟨hFS.below h, hI, places_minus hbp (by decide)⟩ ⟨by show (s.extract 0 s.size).size ≤ 1000; rw [ByteArray.size_extract]; omega, hfi.2, hfi.1⟩)
    have HSM := Lib.hid (fun (ba : Option Addr) (bc : Nat) => show longP (PC.mk f a c (s.extract 0 s.size) ba bc (minusL (barsOf r s) (0 : Nat))) = wordSet f r s from longSet_same ..)
    have hbk := hB.below (hK0.low)
    have H0 := Lib.hid h0
    obtain ⟨o, ho⟩ : ∃ o, o = wordSet f r s := ⟨_, rfl⟩
    rw [← ho] at HSM ⊢
    unfold boxSt at hK0 hbk
    unfold setV at *
    unfold PC.cells at *
    dsimp only at HLO
    have E0 := Lib.hid (show s.extract 0 s.size = s from ext_whole s)
    rw [E0.out] at HPO HLO HSM
    clear ho hf hfi hbp hB hFS h0
    cases o with
    | none =>
      go_enter Tryz.func116, Tryz.ntmps116
      go_wp2_with fail
      refine (HW.out _).mono ?_
      rintro e w2 ⟨rfl, rfl⟩
      obtain ⟨c0, c1, c2, c3, c4, c5, c6, c7⟩ := hK0.sc
      go_wp2_with fail
      refine (HPO.out _ hK0.low hbk).mono ?_
      rintro e w3 ⟨hb3, ba, bc, rfl, hI3⟩
      have hK3 := hK0.below hb3
      have HL := Lib.hid (HLO.out _ ba bc hK3.low hI3)
      rw [HSM.out ba bc] at HL
      unfold PC.cells
      go_wp2_with fail
      refine HL.out.mono ?_
      intro e w4 hp4
      obtain ⟨hb4, rfl⟩ := SetPost.none hp4
      have hlow := (hK3.below hb4).low
      clear hp4 hb4 HL hK0 hbk hb3 hI3
      go_wp2_with fail
      refine (sortsOf_none none 0 0 _).mono ?_
      rintro e w5 ⟨rfl, rfl⟩
      go_wp2
      go_ret2
      exact ⟨hlow, by rw [if_neg (fun h => h H0.out)]; try rfl⟩
    | some l =>
      go_enter Tryz.func116, Tryz.ntmps116
      go_wp2_with fail
      refine (HW.out _).mono ?_
      rintro e w2 ⟨rfl, rfl⟩
      obtain ⟨c0, c1, c2, c3, c4, c5, c6, c7⟩ := hK0.sc
      go_wp2_with fail
      refine (HPO.out _ hK0.low hbk).mono ?_
      rintro e w3 ⟨hb3, ba, bc, rfl, hI3⟩
      have hK3 := hK0.below hb3
      have HL := Lib.hid (HLO.out _ ba bc hK3.low hI3)
      rw [HSM.out ba bc] at HL
      unfold PC.cells
      go_wp2_with fail
      refine HL.out.mono ?_
      intro e w4 hp4
      obtain ⟨hb4, a9, c9, rfl, hrow⟩ := SetPost.some hp4
      have hlow := (hK3.below hb4).low
      clear hp4 hb4 HL hK0 hbk hb3 hI3
      go_wp2_with fail
      refine (sortsOf_some a9 l.length c9 _).mono ?_
      rintro e w5 ⟨rfl, rfl⟩
      go_wp2
      go_ret2
      exact ⟨hlow, by rw [if_neg (fun h => h H0.out)]; exact ⟨a9, c9, rfl, hrow.mono hK3.low.size⟩⟩
  · have hb : (wordErr s != 0) = true := by simpa using h0
    have H0 := Lib.hid h0
    have hlow := hK0.low
    unfold boxSt at *
    unfold setV at *
    clear h0 hK0
    go_enter Tryz.func116, Tryz.ntmps116
    go_wp2_with fail
    refine (HW.out _).mono ?_
    rintro e w2 ⟨rfl, rfl⟩
    go_wp2
    go_ret2
    exact ⟨hlow, by rw [if_pos H0.out]; try rfl⟩
end Go.Proofs.YtpoadjnhmdbdeaaGreatDoor
/-
  breaksOf, wordOf: the program's words with their breaks.
-/
namespace Go.Proofs.YtpoadjnhmdbdeaaGreatDoor
open Go.RowKit Go.Maps Go.Shelf

theorem containsI_any (A : Option Addr) (c : Nat) (l : List Int) (n : Int) (w : World) (base : Nat) (hI : IRow w base (.slice A l.length c) l) (hl : l.length ≤ maxLen) :
    Calls Tryz.prog 125 #[.slice A l.length c, .int .i64 n] w fun e w' => e = .returned (.bool (decide (n ∈ l))) ∧ w = w' := by
  unfold maxLen at hl
  rcases hI.2 with ⟨e1, e2⟩ | ⟨g, cap, cur, e1, _, hh, _⟩
  · have h0 : l = [] := List.length_eq_zero_iff.1 e2
    subst h0
    refine (Tryz.slices_Contains_int_empty A c n w).mono ?_
    rintro e w' ⟨rfl, rfl⟩
    exact ⟨rfl, rfl⟩
  · injection e1 with e1 _ e3
    subst e1
    subst e3
    have hi := hI.ints.2
    refine (Tryz.slices_Contains_int g 0 l.length c l n w (Nat.le_refl _) hl (fun j hj => ?_)).mono ?_
    · obtain ⟨ad, e, _, hc⟩ := hi j hj
      have e2 : (⟨g, 0, none⟩ : Addr) = ad := Option.some.inj e
      subst e2
      rw [Addr.add_mid] at hc
      exact hc
    · rintro e w' ⟨rfl, rfl⟩
      refine ⟨?_, rfl⟩
      rw [List.take_length]
      congr 2
      rw [Bool.eq_iff_iff, List.contains_iff_mem, decide_eq_true_eq]
/-- How many bytes the first sorts of a list print. -/
def plOf (f : FT) (L : List Int) : Nat → Int
  | 0 => 0
  | k + 1 => plOf f L k + ((f.sorts.getD (L.getD k 0).toNat noTS).text.size : Int)
/-- The breaks of a word: how many sorts are ahead of its hyphens. -/
def brTo (f : FT) (H L : List Int) : Nat → List Int
  | 0 => []
  | k + 1 => if plOf f L k ∈ H then brTo f H L k ++ [(k : Int)] else brTo f H L k
theorem brTo_len (f : FT) (H L : List Int) : ∀ k, (brTo f H L k).length ≤ k
  | 0 => Nat.le_refl _
  | k + 1 => by
    have := brTo_len f H L k
    unfold brTo
    split
    · rw [List.length_append]; simp; omega
    · omega
theorem plOf_bd {f : FT} (hf : (checkF f).2 = 0) {L : List Int} (hL : OkIdx L f.sorts.length) : ∀ k, k ≤ L.length → 0 ≤ plOf f L k ∧ plOf f L k ≤ 4 * (k : Int)
  | 0, _ => ⟨Int.le_refl _, Int.le_refl _⟩
  | k + 1, h => by
    have ih := plOf_bd hf hL k (by omega)
    obtain ⟨x, hx, e⟩ := hL k (by omega)
    have ht := text_bd hf hx
    unfold plOf
    rw [e, Int.toNat_natCast]
    omega
theorem longSet_idx {p : PC} : ∀ (k pl : Nat) (acc l : List Int), longSet p k pl acc = some l → pl ≤ p.t.size → OkIdx acc p.f.sorts.length → OkIdx l p.f.sorts.length
  | 0, _, _, _, h, _, _ => by cases h
  | k + 1, pl, acc, l, h, hpl, ha => by
    unfold longSet at h
    by_cases h1 : pl < p.t.size
    · rw [if_pos h1] at h
      by_cases h2 : 0 < (longAt p pl).2
      · rw [if_pos h2] at h
        have hok := (longAt_ok p pl hpl).resolve_left (by omega)
        refine longSet_idx k _ _ l h hok.2.2 (fun j hj => ?_)
        rw [List.length_append, List.length_singleton] at hj
        by_cases hj2 : j < acc.length
        · obtain ⟨x, hx, e⟩ := ha j hj2
          refine ⟨x, hx, ?_⟩
          rw [List.getD_eq_getElem?_getD, List.getElem?_append_left hj2, ← List.getD_eq_getElem?_getD]
          exact e
        · obtain rfl : j = acc.length := by omega
          exact ⟨_, hok.1, by rw [List.getD_eq_getElem?_getD, List.getElem?_append_right (Nat.le_refl _), Nat.sub_self]; try rfl⟩
      · rw [if_neg h2] at h; cases h
    · rw [if_neg h1] at h
      injection h with h
      subst h
      exact ha
theorem wordSet_idx {f : FT} {r : RU} {s : ByteArray} {l : List Int} (h : wordSet f r s = some l) : OkIdx l f.sorts.length :=
  longSet_idx _ _ _ _ h (Nat.zero_le _) (fun _ hj => absurd hj (Nat.not_lt_zero _))
def RIPost (w : World) (l : List Int) (e : Ending) (w' : World) : Prop := (∃ A c, e = .returned (.slice A l.length c) ∧ IRow w' w.heap.size (.slice A l.length c) l) ∧ Below w.heap.size w w'
set_option maxRecDepth 100000 in
set_option maxHeartbeats 2000000 in
theorem breaksOf_any (f : FT) (a : Option Addr) (c : Nat) (r : RU) (g b1 b2 base : Nat) (s : ByteArray) (A : Option Addr) (L : List Int) (k : Nat) (w : World) (hFS : SortsAt w a f.sorts) (hB : BookAt w base r g b1 b2) (hf : (checkF f).2 = 0) (he : ruleErr r s = 0)
    (hI : IntsAt w A L) (hL : OkIdx L f.sorts.length) (hLl : L.length ≤ 1000) :
    Calls Tryz.prog 163 #[setV f a c r g b1 b2, .string s, .slice A L.length k] w (RIPost w (brTo f (ruleHyph r s) L L.length)) := by
  have hK0 := stk_start w f a c r g b1 b2
  obtain ⟨o1, o2⟩ := rules_ok he
  obtain ⟨hn, hok⟩ := checkR_pats o1
  have hsz := (word_size o2).2
  have hbd := (hyph_bounds he).1
  have hHl := (hyph_bounds he).2.1
  have HHY := Lib.hid (fun W (hB2 : BookAt W base r g b1 b2) => hyphens_any r base g b1 b2 s W hB2 hok (by omega) (by omega) (word_ascii o2) hbd)
  have hbk := hB.below hK0.low
  have HFS := Lib.hid hFS
  have HI := Lib.hid hI
  have HOI := Lib.hid hL
  have HTB := Lib.hid (fun k (hk : k < f.sorts.length) => text_bd hf hk)
  have HPB := Lib.hid (plOf_bd hf hL)
  obtain ⟨H, hH⟩ : ∃ H, H = ruleHyph r s := ⟨_, rfl⟩
  rw [← hH] at HHY hHl ⊢
  unfold bookV at HHY
  unfold boxSt at hK0 hbk
  unfold setV
  clear hH hFS hB hf he hI hL o1 o2 hok hbd
  obtain ⟨c0, c1, c2, c3, c4, c5, c6, c7⟩ := hK0.sc
  go_enter Tryz.func163, Tryz.ntmps163
  go_wp2_with fail
  refine (HHY.out _ hbk).mono ?_
  rintro e w2 ⟨A2, k2, rfl, hrow, hb2⟩
  have hK2 := hK0.below hb2
  have HCN := Lib.hid (fun W n (h : Below w2.heap.size w2 W) => containsI_any A2 k2 H n W _ (hrow.below h) (by unfold maxLen; omega))
  have hsz2 := heap_lt hK2.box
  clear hK0 hbk hb2 HHY c0 c1 c2 c3 c4 c5 c6 c7 hrow
  go_wp2_with fail
  go_loopw [8, 9, 18] (fun v8 v9 v18 wr => ∃ q : Nat, q ≤ L.length ∧ v18 = .int .i64 q ∧ v9 = .int .i64 (plOf f L q) ∧ IRow wr w2.heap.size v8 (brTo f H L q) ∧ Below w2.heap.size w2 wr) (fun _ _ v18 _ => L.length - (intOf v18).toNat)
  case atStart => exact ⟨0, Nat.zero_le _, rfl, rfl, IRow.nil _ _, Below.refl _ _⟩
  case round =>
    obtain ⟨q, hq, rfl, rfl, hIr, hbr⟩ := hrel
    have hKr := hK2.below hbr
    by_cases hql : q < L.length
    · have hql' : (q : Int) < (L.length : Int) := by omega
      obtain ⟨ad, rfl, hal, hy⟩ := (HI.out.below hKr.low).at_ hql
      obtain ⟨x, hx, ex⟩ := HOI.out q hql
      obtain ⟨ad2, rfl, had2, hsx⟩ := HFS.out.at_ hx
      rw [ex] at hy
      have c2 := hKr.sc.2.2.1
      have tw := hsx.2.1
      have htb := HTB.out x hx
      have hpb := HPB.out q hq
      have HPN := Lib.hid (show plOf f L (q + 1) = plOf f L q + ((f.sorts.getD x noTS).text.size : Int) by
        show plOf f L q + ((f.sorts.getD (L.getD q 0).toNat noTS).text.size : Int) = _
        rw [ex, Int.toNat_natCast])
      have HST := Lib.hid (show brTo f H L (q + 1) = if plOf f L q ∈ H then brTo f H L q ++ [(q : Int)] else brTo f H L q from rfl)
      generalize (f.sorts.getD x noTS).text = xt at tw htb HPN
      have t1 := (hKr.low.cell (p := ⟨(ad2.add (x * 4)).block, (ad2.add (x * 4)).off + 1, none⟩) (by rw [add_block]; exact had2)).trans tw
      have hxl : (x : Int) < (f.sorts.length : Int) := by omega
      have hx0 : (0 : Int) ≤ (x : Int) := by omega
      obtain ⟨P, hP⟩ : ∃ P, P = plOf f L q := ⟨_, rfl⟩
      rw [← hP] at hpb HPN HST ⊢
      have HC := Lib.hid (HCN.out wr P hbr)
      have hbl := brTo_len f H L q
      clear hP hsx ex hKr
      by_cases hm : P ∈ H
      · have HST2 := Lib.hid (HST.out.trans (if_pos hm))
        rw [decide_eq_true hm] at HC
        clear hm HST
        obtain ⟨a9, d9, hv9, -, -, -⟩ := hIr.shape
        subst hv9
        have hbl2 := hbr.size
        have hq1 : (brTo f H L q).length ≤ 1000000 := by omega
        go_wp2_with fail
        refine HC.out.mono ?_
        rintro e w4 ⟨rfl, rfl⟩
        go_wp2_with (at_builtin; refine wpList_app1 wr _ rfl _ _ rfl w2.heap.size _ (brTo f H L q) rfl hIr rfl hq1 hbl2 ?_; intro g9 c9 w9 hrow9 hgrow9 hb9; have hK9 := hK2.below (hbr.trans hb9); have c2 := hK9.sc.2.2.1; have t1 : w9.cell? ⟨(ad2.add (x * 4)).block, (ad2.add (x * 4)).off + 1, none⟩ = some (.string xt) := (hK9.low.cell (p := ⟨(ad2.add (x * 4)).block, (ad2.add (x * 4)).off + 1, none⟩) (by rw [add_block]; exact had2)).trans tw)
        go_roundw
        case rel => exact ⟨q + 1, by omega, by go_num, by rw [HPN.out], by rw [HST2.out]; simpa using hrow9, hbr.trans hb9⟩
        case measure => simp [intOf]; omega
      · have HST2 := Lib.hid (HST.out.trans (if_neg hm))
        rw [decide_eq_false hm] at HC
        clear hm HST
        go_wp2_with fail
        refine HC.out.mono ?_
        rintro e w4 ⟨rfl, rfl⟩
        go_wp2
        go_roundw
        case rel => exact ⟨q + 1, by omega, by go_num, by rw [HPN.out], by rw [HST2.out]; exact hIr, hbr⟩
        case measure => simp [intOf]; omega
    · obtain rfl : q = L.length := by omega
      have hql' : ¬ (L.length : Int) < (L.length : Int) := by omega
      obtain ⟨a9, d9, hv9, -, -, -⟩ := hIr.shape
      subst hv9
      have hlow := hKr.low
      have hI9 := hIr.mono hK2.low.size
      clear hIr hKr
      go_wp2
      go_ret
      exact ⟨⟨a9, d9, rfl, hI9⟩, hlow⟩
end Go.Proofs.YtpoadjnhmdbdeaaGreatDoor

/-
  wordOf: a word with its sorts and breaks.
-/
namespace Go.Proofs.YtpoadjnhmdbdeaaGreatDoor
open Go.RowKit Go.Maps Go.Shelf

def wordBr (f : FT) (r : RU) (s : ByteArray) (l : List Int) : List Int := brTo f (ruleHyph r s) l l.length
def WordOf (w : World) (f : FT) (r : RU) (s : ByteArray) (E : Int) (o : Option (List Int)) (e : Ending) (w' : World) : Prop :=
  Below w.heap.size w w' ∧ if E ≠ 0 then e = .returned (.tuple #[.agg #[.slice none 0 0, .slice none 0 0], .int .i64 E]) else match o with
    | none => e = .returned (.tuple #[.agg #[.slice none 0 0, .slice none 0 0], .int .i64 6])
    | some l => ∃ A k A2 k2, e = .returned (.tuple #[.agg #[.slice A l.length k, .slice A2 (wordBr f r s l).length k2], .int .i64 0]) ∧ IRow w' w.heap.size (.slice A l.length k) l ∧ IRow w' w.heap.size (.slice A2 (wordBr f r s l).length k2) (wordBr f r s l)
theorem ruleErr_of {r : RU} {s : ByteArray} (h1 : (checkR r).2 = 0) (h2 : wordErr s = 0) : ruleErr r s = 0 := by
  unfold ruleErr
  rw [if_neg (fun h => h h1)]
  exact h2
set_option maxRecDepth 100000 in
set_option maxHeartbeats 2000000 in
theorem wordOf_any (f : FT) (a : Option Addr) (c : Nat) (r : RU) (g b1 b2 base : Nat) (s : ByteArray) (w : World) (hFS : SortsAt w a f.sorts) (hB : BookAt w base r g b1 b2) (hf : (checkF f).2 = 0) (he : (checkR r).2 = 0) (hs : s.size ≤ maxLen) :
    Calls Tryz.prog 115 #[setV f a c r g b1 b2, .string s] w (WordOf w f r s (wordErr s) (wordSet f r s)) := by
  have hK0 := stk_start w f a c r g b1 b2
  have hK1 : StK w w.heap.size f a c r g b1 b2 ((w.alloc (boxSt f a c r g b1 b2)).alloc (.cells #[.slice none 0 0, .slice none 0 0] 121)) := hK0.below ((Below.refl _ _).alloc (Nat.le_refl _) _)
  have hres := heap_new (w.alloc (boxSt f a c r g b1 b2)) (.cells #[.slice none 0 0, .slice none 0 0] 121)
  rw [World.size_alloc] at hres
  have HSW := Lib.hid (fun W (h : StK w w.heap.size f a c r g b1 b2 W) => setWord_any f a c r g b1 b2 base s W (hFS.below h.low) (hB.below h.low) hf hs)
  have HBR := Lib.hid (fun W (h : StK w w.heap.size f a c r g b1 b2 W) (h0 : wordErr s = 0) (A : Option Addr) (L : List Int) (k : Nat) (hI : IntsAt W A L) (ho : wordSet f r s = some L) (hl : L.length ≤ 1000) => breaksOf_any f a c r g b1 b2 base s A L k W (hFS.below h.low) (hB.below h.low) hf (ruleErr_of he h0) hI (wordSet_idx ho) hl)
  have HLN := Lib.hid (fun (h0 : wordErr s = 0) (L : List Int) (ho : wordSet f r s = some L) => show L.length ≤ 30 from Nat.le_trans (wordSet_len ho) (word_size h0).2)
  obtain ⟨o, ho⟩ : ∃ o, o = wordSet f r s := ⟨_, rfl⟩
  obtain ⟨E, hE⟩ : ∃ E, E = wordErr s := ⟨_, rfl⟩
  rw [← ho] at HSW HBR HLN ⊢
  rw [← hE] at HSW HBR HLN ⊢
  unfold boxSt at hK0 hK1 hres
  unfold setV at *
  clear ho hE hFS hB hf he hK0
  obtain ⟨c0, c1, c2, c3, c4, c5, c6, c7⟩ := hK1.sc
  by_cases h0 : E = 0
  · subst h0
    cases o with
    | none =>
      go_enter Tryz.func115, Tryz.ntmps115
      go_wp2_with fail
      refine (HSW.out _ hK1).mono ?_
      rintro e w2 ⟨hb2, hp2⟩
      rw [if_neg (fun h => h rfl)] at hp2
      dsimp only at hp2
      subst hp2
      have hlow := (hK1.below hb2).low
      have hr2 := (hb2.block _ (heap_lt hres)).trans hres
      have x0 : w2.cell? ⟨w.heap.size + 1, 0, none⟩ = some (.slice none 0 0) := cell_of_row w2 _ 0 _ _ (0, 0) hr2
      have x1 : w2.cell? ⟨w.heap.size + 1, 1, none⟩ = some (.slice none 0 0) := cell_of_row w2 _ 1 _ _ (0, 0) hr2
      have y0 : w2.frozen? ⟨w.heap.size + 1, 0, none⟩ = false := by simp [World.frozen?, hr2]
      have y1 : w2.frozen? ⟨w.heap.size + 1, 1, none⟩ = false := by simp [World.frozen?, hr2]
      have hr3 := heap_set2 (heap_set2 hr2 0 (.slice none 0 0)) 1 (.slice none 0 0)
      obtain ⟨W9, hW9⟩ : ∃ W9, W9 = (w2.setCell ⟨w.heap.size + 1, 0, none⟩ (.slice none 0 0)).setCell ⟨w.heap.size + 1, 1, none⟩ (.slice none 0 0) := ⟨_, rfl⟩
      rw [← hW9] at hr3
      have z0 : W9.cell? ⟨w.heap.size + 1, 0, none⟩ = some (.slice none 0 0) := cell_of_row W9 _ 0 _ _ (0, 0) hr3
      have z1 : W9.cell? ⟨w.heap.size + 1, 1, none⟩ = some (.slice none 0 0) := cell_of_row W9 _ 1 _ _ (0, 0) hr3
      have hlow9 : Below w.heap.size w W9 := by rw [hW9]; exact (hlow.setCell (by show w.heap.size ≤ w.heap.size + 1; omega) _).setCell (by show w.heap.size ≤ w.heap.size + 1; omega) _
      have HW9 := Lib.hid hW9
      clear hW9 hr3 hr2 hb2 hK1 c0 c1 c2 c3 c4 c5 c6 c7
      go_wp2
      rw [← HW9.out]
      refine bodyPost_ret (v := .tuple #[.agg #[.slice none 0 0, .slice none 0 0], .int .i64 6]) (by simp [results, Tryz.results115, go_sem, z0, z1]) rfl ⟨hlow9, ?_⟩
      rw [if_neg (fun h => h rfl)]
    | some l =>
      go_enter Tryz.func115, Tryz.ntmps115
      go_wp2_with fail
      refine (HSW.out _ hK1).mono ?_
      rintro e w2 ⟨hb2, hp2⟩
      rw [if_neg (fun h => h rfl)] at hp2
      dsimp only at hp2
      obtain ⟨A2, k2, rfl, hI2⟩ := hp2
      have hK2 := hK1.below hb2
      have hr2 := (hb2.block _ (heap_lt hres)).trans hres
      have hln := HLN.out (by simp) l (by simp)
      have HB := Lib.hid (HBR.out _ hK2 (by simp) A2 l k2 hI2.ints.2 (by simp) (by omega))
      have hlo2 := hK1.low.size
      clear hK1 hb2 c0 c1 c2 c3 c4 c5 c6 c7 HSW HBR HLN
      obtain ⟨c0, c1, c2, c3, c4, c5, c6, c7⟩ := hK2.sc
      go_wp2_with fail
      refine HB.out.mono ?_
      rintro e w3 ⟨⟨A3, k3, rfl, hI3⟩, hb3⟩
      have hlow := (hK2.below hb3).low
      have hr3' := (hb3.block _ (heap_lt hr2)).trans hr2
      have hJ3 := hI2.below hb3
      have hlo3 := hK2.low.size
      have x0 : w3.cell? ⟨w.heap.size + 1, 0, none⟩ = some (.slice none 0 0) := cell_of_row w3 _ 0 _ _ (0, 0) hr3'
      have x1 : w3.cell? ⟨w.heap.size + 1, 1, none⟩ = some (.slice none 0 0) := cell_of_row w3 _ 1 _ _ (0, 0) hr3'
      have y0 : w3.frozen? ⟨w.heap.size + 1, 0, none⟩ = false := by simp [World.frozen?, hr3']
      have y1 : w3.frozen? ⟨w.heap.size + 1, 1, none⟩ = false := by simp [World.frozen?, hr3']
      clear hr2 hb3 hK2 hI2 c0 c1 c2 c3 c4 c5 c6 c7
      have hr3 := heap_set2 (heap_set2 hr3' 0 (.slice A2 l.length k2)) 1 (.slice A3 (brTo f (ruleHyph r s) l l.length).length k3)
      obtain ⟨W9, hW9⟩ : ∃ W9, W9 = (w3.setCell ⟨w.heap.size + 1, 0, none⟩ (.slice A2 l.length k2)).setCell ⟨w.heap.size + 1, 1, none⟩ (.slice A3 (brTo f (ruleHyph r s) l l.length).length k3) := ⟨_, rfl⟩
      rw [← hW9] at hr3
      have z0 : W9.cell? ⟨w.heap.size + 1, 0, none⟩ = some (.slice A2 l.length k2) := cell_of_row W9 _ 0 _ _ (0, 0) hr3
      have z1 : W9.cell? ⟨w.heap.size + 1, 1, none⟩ = some (.slice A3 (brTo f (ruleHyph r s) l l.length).length k3) := cell_of_row W9 _ 1 _ _ (0, 0) hr3
      have hlow9 : Below w.heap.size w W9 := by rw [hW9]; exact (hlow.setCell (by show w.heap.size ≤ w.heap.size + 1; omega) _).setCell (by show w.heap.size ≤ w.heap.size + 1; omega) _
      have hj9 : IRow W9 w.heap.size (.slice A2 l.length k2) l := by rw [hW9]; exact own_put (own_put (hJ3.mono hlo2) hr3' (by decide) 0 _) (heap_set2 hr3' 0 _) (by decide) 1 _
      have hi9 : IRow W9 w.heap.size (.slice A3 (brTo f (ruleHyph r s) l l.length).length k3) (brTo f (ruleHyph r s) l l.length) := by rw [hW9]; exact own_put (own_put (hI3.mono hlo3) hr3' (by decide) 0 _) (heap_set2 hr3' 0 _) (by decide) 1 _
      have HW9 := Lib.hid hW9
      clear hW9 hr3 hr3'
      go_wp2
      rw [← HW9.out]
      refine bodyPost_ret (v := .tuple #[.agg #[.slice A2 l.length k2, .slice A3 (brTo f (ruleHyph r s) l l.length).length k3], .int .i64 0]) (by simp [results, Tryz.results115, go_sem, z0, z1]) rfl ⟨hlow9, ?_⟩
      rw [if_neg (fun h => h rfl)]
      exact ⟨A2, k2, A3, k3, rfl, hj9, hi9⟩
  · have hE1 : (E != 0) = true := by simpa using h0
    go_enter Tryz.func115, Tryz.ntmps115
    go_wp2_with fail
    refine (HSW.out _ hK1).mono ?_
    rintro e w2 ⟨hb2, hp2⟩
    rw [if_pos h0] at hp2
    subst hp2
    have hlow := (hK1.below hb2).low
    have hr2 := (hb2.block _ (heap_lt hres)).trans hres
    have x0 : w2.cell? ⟨w.heap.size + 1, 0, none⟩ = some (.slice none 0 0) := cell_of_row w2 _ 0 _ _ (0, 0) hr2
    have x1 : w2.cell? ⟨w.heap.size + 1, 1, none⟩ = some (.slice none 0 0) := cell_of_row w2 _ 1 _ _ (0, 0) hr2
    have y0 : w2.frozen? ⟨w.heap.size + 1, 0, none⟩ = false := by simp [World.frozen?, hr2]
    have y1 : w2.frozen? ⟨w.heap.size + 1, 1, none⟩ = false := by simp [World.frozen?, hr2]
    have hr3 := heap_set2 (heap_set2 hr2 0 (.slice none 0 0)) 1 (.slice none 0 0)
    obtain ⟨W9, hW9⟩ : ∃ W9, W9 = (w2.setCell ⟨w.heap.size + 1, 0, none⟩ (.slice none 0 0)).setCell ⟨w.heap.size + 1, 1, none⟩ (.slice none 0 0) := ⟨_, rfl⟩
    rw [← hW9] at hr3
    have z0 : W9.cell? ⟨w.heap.size + 1, 0, none⟩ = some (.slice none 0 0) := cell_of_row W9 _ 0 _ _ (0, 0) hr3
    have z1 : W9.cell? ⟨w.heap.size + 1, 1, none⟩ = some (.slice none 0 0) := cell_of_row W9 _ 1 _ _ (0, 0) hr3
    have hlow9 : Below w.heap.size w W9 := by rw [hW9]; exact (hlow.setCell (by show w.heap.size ≤ w.heap.size + 1; omega) _).setCell (by show w.heap.size ≤ w.heap.size + 1; omega) _
    have HW9 := Lib.hid hW9
    clear hW9 hr3 hr2 hb2 hK1 c0 c1 c2 c3 c4 c5 c6 c7
    go_wp2
    rw [← HW9.out]
    refine bodyPost_ret (v := .tuple #[.agg #[.slice none 0 0, .slice none 0 0], .int .i64 E]) (by simp [results, Tryz.results115, go_sem, z0, z1]) rfl ⟨hlow9, ?_⟩
    rw [if_pos h0]
end Go.Proofs.YtpoadjnhmdbdeaaGreatDoor

/-
  Words: the program's walk.
-/
namespace Go.Proofs.YtpoadjnhmdbdeaaGreatDoor
open Go.RowKit Go.Maps Go.Shelf

def wErrO (f : FT) (r : RU) (s : ByteArray) : Int := if wordErr s ≠ 0 then wordErr s else match wordSet f r s with
  | none => 6
  | some _ => 0
def wordX (f : FT) (r : RU) (s : ByteArray) : List Int × List Int := match wordSet f r s with
  | none => ([], [])
  | some l => (l, wordBr f r s l)
def badW (f : FT) (r : RU) (ws : List ByteArray) (j : Nat) : Bool := wErrO f r (ws.getD j noTx) != 0
/-- The error of a list of words. -/
def wordsE (f : FT) (r : RU) (ws : List ByteArray) : Int := if 100 < ws.length then 8 else match firstAt (badW f r ws) (ws.length - 0) 0 with
  | none => 0
  | some i => wErrO f r (ws.getD i noTx)
def wordsX (f : FT) (r : RU) (ws : List ByteArray) (j : Nat) : List Int × List Int := wordX f r (ws.getD j noTx)
/-- Two cells that are a word's lists. -/
def WordAt (w : World) (B : Nat) (p : Addr) (x : List Int × List Int) : Prop := ∃ v1 v2, w.cell? p = some v1 ∧ w.cell? ⟨p.block, p.off + 1, none⟩ = some v2 ∧ IRow w B v1 x.1 ∧ IRow w B v2 x.2
/-- A row of n words' cells in block G, the first k of which are those of fn. -/
structure WRow (w : World) (B G n : Nat) (fn : Nat → List Int × List Int) (k : Nat) : Prop where
  row : ∃ cs : Array Value, w.heap[G]? = some (.cells cs 121 (0, 0)) ∧ cs.size = n * 2
  wds : ∀ j, j < k → WordAt w B ⟨G, j * 2, none⟩ (fn j)
section
variable {w w' : World} {B G n k : Nat} {fn : Nat → List Int × List Int}
theorem WRow.lt (h : WRow w B G n fn k) : G < w.heap.size := by
  obtain ⟨cs, h1, _⟩ := h.row
  exact heap_lt h1
theorem WRow.some_ (h : WRow w B G n fn k) {j : Nat} (hj : j < n * 2) : ∃ v, w.cell? ⟨G, j, none⟩ = some v := by
  obtain ⟨cs, h1, h2⟩ := h.row
  exact ⟨cs[j]'(by omega), by rw [cell_of_row w G j cs _ (0, 0) h1]; exact Array.getElem?_eq_getElem (by omega)⟩
theorem WRow.frozen (h : WRow w B G n fn k) (j : Nat) : w.frozen? ⟨G, j, none⟩ = false := by
  obtain ⟨cs, h1, _⟩ := h.row
  simp [World.frozen?, h1]
theorem WRow.below (h : WRow w B G n fn k) (hb : Below w.heap.size w w') : WRow w' B G n fn k := by
  have hlt := h.lt
  obtain ⟨cs, h1, h2⟩ := h.row
  refine ⟨⟨cs, (hb.block G hlt).trans h1, h2⟩, fun j hj => ?_⟩
  obtain ⟨v1, v2, c1, c2, i1, i2⟩ := h.wds j hj
  exact ⟨v1, v2, (hb.cell (p := ⟨_, _, none⟩) hlt).trans c1, (hb.cell (p := ⟨_, _, none⟩) hlt).trans c2, i1.below hb, i2.below hb⟩
theorem irow_put (h : WRow w B G n fn k) {v : Value} {l : List Int} {b : Nat} (hI : IRow w b v l) (j : Nat) (u : Value) : IRow (w.setCell ⟨G, j, none⟩ u) b v l := by
  obtain ⟨cs, h1, _⟩ := h.row
  exact own_put hI h1 (by decide) j u
theorem WRow.set_ (h : WRow w B G n fn k) {j : Nat} (hj : k * 2 ≤ j) (u : Value) : WRow (w.setCell ⟨G, j, none⟩ u) B G n fn k := by
  have h0 := h
  obtain ⟨cs, h1, h2⟩ := h.row
  refine ⟨⟨_, pat_set h1 j u, by simp [h2]⟩, fun i hi => ?_⟩
  obtain ⟨v1, v2, c1, c2, i1, i2⟩ := h.wds i hi
  exact ⟨v1, v2, by rw [cell_else (by omega)]; exact c1, by show (w.setCell ⟨G, j, none⟩ u).cell? ⟨G, i * 2 + 1, none⟩ = _; rw [cell_else (by omega)]; exact c2, irow_put h0 i1 j u, irow_put h0 i2 j u⟩
theorem WRow.same (h : WRow w B G n fn k) {j : Nat} (hj : j < n * 2) (u : Value) : (w.setCell ⟨G, j, none⟩ u).cell? ⟨G, j, none⟩ = some u := by
  obtain ⟨cs, h1, h2⟩ := h.row
  rw [cell_of_row _ G j _ _ (0, 0) (pat_set h1 j u)]
  simp [h2, hj]
theorem WRow.push (h : WRow w B G n fn k) (hk : k < n) {v1 v2 : Value} {l1 l2 : List Int} (hx : fn k = (l1, l2)) (i1 : IRow w B v1 l1) (i2 : IRow w B v2 l2) :
    WRow ((w.setCell ⟨G, k * 2, none⟩ v1).setCell ⟨G, k * 2 + 1, none⟩ v2) B G n fn (k + 1) := by
  have h1 := h.set_ (j := k * 2) (Nat.le_refl _) v1
  have h2 := h1.set_ (j := k * 2 + 1) (by omega) v2
  refine ⟨h2.row, fun i hi => ?_⟩
  by_cases e : i = k
  · subst e
    rw [hx]
    refine ⟨v1, v2, ?_, ?_, irow_put h1 (irow_put h i1 _ _) _ _, irow_put h1 (irow_put h i2 _ _) _ _⟩
    · rw [cell_else (by omega)]; exact h.same (by omega) _
    · exact h1.same (by omega) _
  · exact h2.wds i (by omega)
end
theorem infoPW : (Tryz.prog.info? 121).map (fun i => (i.zero, i.size, i.bytes)) = some (some (.agg #[.slice none 0 0, .slice none 0 0]), 2, 48) := by kernel_rfl
/-- What Words answers behind its error. -/
def WordsPost (w : World) (E : Int) (n : Nat) (fn : Nat → List Int × List Int) (e : Ending) (w' : World) : Prop :=
  Below w.heap.size w w' ∧ if E = 0 then ∃ G c, e = .returned (.tuple #[.slice (some ⟨G, 0, none⟩) n c, .int .i64 0]) ∧ WRow w' w.heap.size G n fn n else e = .returned (.tuple #[.slice none 0 0, .int .i64 E])
set_option maxRecDepth 100000 in
set_option maxHeartbeats 4000000 in
theorem words_any (f : FT) (a : Option Addr) (c : Nat) (r : RU) (b : Option Addr) (ws : List ByteArray) (d : Nat) (w : World) (hF : FAt w a f) (hR : r.at_ w) (hX : TextsAt w b ws) (hl : ws.length ≤ maxLen) (hS : ∀ k, k < ws.length → (ws.getD k noTx).size ≤ maxLen) :
    Calls Tryz.prog 50 #[.agg #[.string f.name, .int .i64 f.body, .slice a f.sorts.length c], .agg r.cells, .slice b ws.length d] w (WordsPost w (if setErr f r ≠ 0 then setErr f r else wordsE f r ws) ws.length (wordsX f r ws)) := by
  have hb0 := ((Below.refl w.heap.size w).alloc (Nat.le_refl _) (.cells #[.string f.name, .int .i64 f.body, .slice a f.sorts.length c] 59)).alloc (by simp) (.cells #[.slice r.ps.a r.ps.l.length r.ps.c, .slice r.es.a r.es.l.length r.es.c, .slice r.bs.a r.bs.l.length r.bs.c, .int .i64 r.left, .int .i64 r.right] 24)
  have HSO := Lib.hid (setterOf_any f a c r _ (hF.below hb0) (hR.below hb0))
  have hl' : ws.length ≤ 9223372036854775807 := by unfold maxLen at hl; omega
  have HX := Lib.hid hX
  obtain ⟨E, hE⟩ : ∃ E, E = (if setErr f r ≠ 0 then setErr f r else wordsE f r ws) := ⟨_, rfl⟩
  have HE := Lib.hid hE
  rw [← hE]
  unfold RU.cells at *
  clear hE hX
  by_cases h0 : setErr f r = 0
  · have hb : (setErr f r != 0) = false := by rw [h0]; try rfl
    have hcf : (checkF f).2 = 0 ∧ (checkR r).2 = 0 := by
      unfold setErr at h0
      by_cases h1 : (checkF f).2 = 0
      · rw [if_neg (fun h => h h1)] at h0; exact ⟨h1, h0⟩
      · rw [if_pos h1] at h0; exact absurd h0 h1
    have HWO := Lib.hid (fun W g b1 b2 base s (hFS : SortsAt W a f.sorts) (hB : BookAt W base r g b1 b2) (hs : s.size ≤ maxLen) => wordOf_any f a c r g b1 b2 base s W hFS hB hcf.1 hcf.2 hs)
    have HFS := Lib.hid hF.at_
    have H0 := Lib.hid h0
    have HE2 := Lib.hid (show E = wordsE f r ws by rw [HE.out, if_neg (fun h => h h0)])
    unfold setV at HWO
    clear hF hR h0 HE hcf
    go_enter Tryz.func50, Tryz.ntmps50
    go_wp2_with fail
    refine HSO.out.mono ?_
    rintro e w1 ⟨hb1, hp1⟩
    rw [if_pos H0.out] at hp1
    obtain ⟨g, b1, b2, rfl, hbk⟩ := hp1
    have hlow1 := hb0.trans (hb1.mono hb0.size)
    have hst := heap_new w1 (.cells #[.string f.name, .int .i64 f.body, .slice a f.sorts.length c, .slice (some ⟨g, 0, none⟩) r.ps.l.length r.ps.l.length, .map (some b1), .map (some b2), .int .i64 r.left, .int .i64 r.right] 183)
    have hlow2 := hlow1.alloc hlow1.size (.cells #[.string f.name, .int .i64 f.body, .slice a f.sorts.length c, .slice (some ⟨g, 0, none⟩) r.ps.l.length r.ps.l.length, .map (some b1), .map (some b2), .int .i64 r.left, .int .i64 r.right] 183)
    have hbk2 := hbk.alloc (.cells #[.string f.name, .int .i64 f.body, .slice a f.sorts.length c, .slice (some ⟨g, 0, none⟩) r.ps.l.length r.ps.l.length, .map (some b1), .map (some b2), .int .i64 r.left, .int .i64 r.right] 183)
    unfold setV
    obtain ⟨W2, hW2⟩ : ∃ W2, W2 = w1.alloc (.cells #[.string f.name, .int .i64 f.body, .slice a f.sorts.length c, .slice (some ⟨g, 0, none⟩) r.ps.l.length r.ps.l.length, .map (some b1), .map (some b2), .int .i64 r.left, .int .i64 r.right] 183) := ⟨_, rfl⟩
    rw [← hW2] at hst hlow2 hbk2
    have hK2 : StK w w1.heap.size f a c r g b1 b2 W2 := ⟨hst, hlow2⟩
    have HW2 := Lib.hid hW2
    have hlt1 := hlow1.size
    clear hW2 hst hbk hb1 HSO hlow1 hb0
    have hzW : W2.heap.size = w1.heap.size + 1 := by rw [HW2.out]; simp
    by_cases h100 : 100 < ws.length
    · have h100' : (100 : Int) < (ws.length : Int) := by omega
      have HV := Lib.hid (show E = 8 by rw [HE2.out]; unfold wordsE; rw [if_pos h100])
      go_wp2
      go_ret2
      rw [HV.out]
      rw [← HW2.out]
      exact ⟨hlow2, rfl⟩
    · have h100' : ¬ (100 : Int) < (ws.length : Int) := by omega
      have hd100 : decide ((100 : Int) < (ws.length : Int)) = false := decide_eq_false h100'
      have hd100n : decide (100 < ws.length) = false := decide_eq_false h100
      have HE3 := Lib.hid (show E = match firstAt (badW f r ws) (ws.length - 0) 0 with | none => 0 | some i => wErrO f r (ws.getD i noTx) by rw [HE2.out]; unfold wordsE; rw [if_neg h100])
      obtain ⟨i0, hi0, hz0, hz1, hz2⟩ := info_parts infoPW
      obtain ⟨W3, hmk, hown3, hg3⟩ := run_make_full (P := Tryz.prog) (w := W2) W2.heap.size 79 121 i0 _ 2 Tryz.underlying79 hi0 hz0 hz1 .i64 .i64 ws.length (by rw [hz2]; omega) hl (Nat.le_refl _)
      have hB3 : Below W2.heap.size W2 W3 := (Below.refl _ _).grown hg3 (Nat.le_refl _) (fun q hq => by cases hq)
      have hr3 : WRow W3 w.heap.size (w1.heap.size + 1) ws.length (wordsX f r ws) 0 := by
        refine ⟨?_, fun j hj => absurd hj (Nat.not_lt_zero _)⟩
        rcases hown3.2 with ⟨ev, _⟩ | ⟨g9, cap, cur, ev, _, hh, _, _, hsz, _⟩
        · cases ev
        · injection ev with e1 e2 e3
          injection e1 with e1
          injection e1 with e1 _ _
          rw [← e1, hzW] at hh
          exact ⟨cur, hh, by rw [hsz, ← e3]⟩
      rw [HW2.out] at hmk
      have HZ2 := Lib.hid hzW
      clear hown3 hg3 hz0 hz1 hz2 hi0 h100 HE2 hzW
      go_wp2_with fail
      clear hmk
      go_loopw [30] (fun v30 wr => ∃ k : Nat, k ≤ ws.length ∧ v30 = .int .i64 k ∧ Hid (firstAt (badW f r ws) (ws.length - 0) 0 = firstAt (badW f r ws) (ws.length - k) k) ∧ Below W2.heap.size W2 wr ∧ WRow wr w.heap.size (w1.heap.size + 1) ws.length (wordsX f r ws) k) (fun v30 _ => ws.length - (intOf v30).toNat)
      case atStart => exact ⟨0, Nat.zero_le _, rfl, Lib.hid rfl, hB3, hr3⟩
      case round =>
        obtain ⟨k, hk, rfl, HS, hB, hrow⟩ := hrel
        clear hB3 hr3
        have hK := hK2.below hB
        by_cases hlt : k < ws.length
        · have hkl : (k : Int) < (ws.length : Int) := by omega
          obtain ⟨p1, rfl, hp1, hc1⟩ := (HX.out.below hK.low).at_ hlt
          have hsz := hS k hlt
          have hbw : badW f r ws k = (wErrO f r (ws.getD k noTx) != 0) := rfl
          have hwx : wordsX f r ws k = wordX f r (ws.getD k noTx) := rfl
          have hvE : wErrO f r (ws.getD k noTx) = if wordErr (ws.getD k noTx) ≠ 0 then wordErr (ws.getD k noTx) else match wordSet f r (ws.getD k noTx) with | none => 6 | some _ => 0 := rfl
          have hvX : wordX f r (ws.getD k noTx) = match wordSet f r (ws.getD k noTx) with | none => ([], []) | some l => (l, wordBr f r (ws.getD k noTx) l) := rfl
          have HEk := Lib.hid (fun (h : firstAt (badW f r ws) (ws.length - k) k = some k) => show E = wErrO f r (ws.getD k noTx) by rw [HE3.out, HS.out, h])
          obtain ⟨t, ht⟩ : ∃ t, t = ws.getD k noTx := ⟨_, rfl⟩
          rw [← ht] at hc1 hsz hbw hwx hvE hvX HEk
          have HW := Lib.hid (HWO.out wr g b1 b2 _ t (HFS.out.below hK.low) (hbk2.below hB) hsz)
          obtain ⟨o, ho⟩ : ∃ o, o = wordSet f r t := ⟨_, rfl⟩
          obtain ⟨E1, hE1⟩ : ∃ E1, E1 = wordErr t := ⟨_, rfl⟩
          rw [← ho] at HW hvE hvX
          rw [← hE1] at HW hvE
          obtain ⟨c0, c1, c2, c3, c4, c5, c6, c7⟩ := hK.sc
          have HBW := Lib.hid hbw
          have HWX := Lib.hid hwx
          have HVE := Lib.hid hvE
          have HVX := Lib.hid hvX
          clear ht ho hE1 hbw hwx hvE hvX
          obtain ⟨z0, y0⟩ := hrow.some_ (j := k * 2) (by omega)
          obtain ⟨z1, y1⟩ := hrow.some_ (j := k * 2 + 1) (by omega)
          by_cases h1 : E1 = 0
          · subst h1
            cases o with
            | none =>
              go_wp2_with fail
              refine HW.out.mono ?_
              rintro e w5 ⟨hb5, hp5⟩
              rw [if_neg (fun h => h rfl)] at hp5
              dsimp only at hp5
              subst hp5
              have hr5 := hrow.below hb5
              have hlow5 := (hK.below hb5).low
              obtain ⟨z0, y0⟩ := hr5.some_ (j := k * 2) (by omega)
              obtain ⟨z1, y1⟩ := hr5.some_ (j := k * 2 + 1) (by omega)
              have hfz := hr5.frozen
              have hnb : badW f r ws k = true := by rw [HBW.out, HVE.out]; try rfl
              have HTN := Lib.hid (firstAt_stop hlt hnb)
              have HV := Lib.hid (show E = 6 by rw [HEk.out HTN.out, HVE.out]; try rfl)
              have hlow6 := (hlow5.setCell (p := ⟨w1.heap.size + 1, k * 2, none⟩) (by show w.heap.size ≤ w1.heap.size + 1; omega) (.slice none 0 0)).setCell (p := ⟨w1.heap.size + 1, k * 2 + 1, none⟩) (by show w.heap.size ≤ w1.heap.size + 1; omega) (.slice none 0 0)
              clear hr5 hlow5 hnb hb5 hK hrow hB
              go_wp2
              go_ret2
              rw [HV.out]
              exact ⟨hlow6, rfl⟩
            | some l =>
              go_wp2_with fail
              refine HW.out.mono ?_
              rintro e w5 ⟨hb5, hp5⟩
              rw [if_neg (fun h => h rfl)] at hp5
              dsimp only at hp5
              obtain ⟨A5, k5, A6, k6, rfl, hI5, hI6⟩ := hp5
              have hr5 := hrow.below hb5
              have hlo5 := hK.low.size
              have hJ5 := hI5.mono hlo5
              have hJ6 := hI6.mono hlo5
              have hB5 := hB.trans (hb5.mono hB.size)
              obtain ⟨z0, y0⟩ := hr5.some_ (j := k * 2) (by omega)
              obtain ⟨z1, y1⟩ := hr5.some_ (j := k * 2 + 1) (by omega)
              have hfz := hr5.frozen
              have hnb : badW f r ws k = false := by rw [HBW.out, HVE.out]; try rfl
              have HTN := Lib.hid (firstAt_go hlt hnb)
              have hr6 := hr5.push hlt (l1 := l) (l2 := wordBr f r t l) (by rw [HWX.out, HVX.out]) hJ5 hJ6
              have hB6 := (hB5.setCell (p := ⟨w1.heap.size + 1, k * 2, none⟩) (by rw [HZ2.out]; exact Nat.le_refl _) (.slice A5 l.length k5)).setCell (p := ⟨w1.heap.size + 1, k * 2 + 1, none⟩) (by rw [HZ2.out]; exact Nat.le_refl _) (.slice A6 (wordBr f r t l).length k6)
              clear hr5 hB5 hI5 hI6 hJ5 hJ6 hnb hb5 hK hrow hB
              go_wp2
              go_roundw
              case rel => exact ⟨k + 1, by omega, by go_num, Lib.hid (HS.out.trans HTN.out), hB6, hr6⟩
              case measure => simp [intOf]; omega
          · have hE1b : (E1 != 0) = true := by simpa using h1
            go_wp2_with fail
            refine HW.out.mono ?_
            rintro e w5 ⟨hb5, hp5⟩
            rw [if_pos h1] at hp5
            subst hp5
            have hr5 := hrow.below hb5
            have hlow5 := (hK.below hb5).low
            obtain ⟨z0, y0⟩ := hr5.some_ (j := k * 2) (by omega)
            obtain ⟨z1, y1⟩ := hr5.some_ (j := k * 2 + 1) (by omega)
            have hfz := hr5.frozen
            have hnb : badW f r ws k = true := by rw [HBW.out, HVE.out, if_pos h1]; exact hE1b
            have HTN := Lib.hid (firstAt_stop hlt hnb)
            have HV := Lib.hid (show E = E1 by rw [HEk.out HTN.out, HVE.out]; rw [if_pos h1])
            have hlow6 := (hlow5.setCell (p := ⟨w1.heap.size + 1, k * 2, none⟩) (by show w.heap.size ≤ w1.heap.size + 1; omega) (.slice none 0 0)).setCell (p := ⟨w1.heap.size + 1, k * 2 + 1, none⟩) (by show w.heap.size ≤ w1.heap.size + 1; omega) (.slice none 0 0)
            clear hr5 hlow5 hnb hb5 hK hrow hB
            go_wp2
            go_ret2
            rw [HV.out]
            exact ⟨hlow6, by rw [if_neg h1]; try rfl⟩
        · obtain rfl : k = ws.length := by omega
          have hkl : ¬ (ws.length : Int) < (ws.length : Int) := by omega
          have HTN := Lib.hid (firstAt_end (q := badW f r ws) hlt)
          have HV := Lib.hid (show E = 0 by rw [HE3.out, HS.out, HTN.out])
          have hlow := hK.low
          clear hK
          go_wp2
          go_ret2
          rw [HV.out]
          exact ⟨hlow, ⟨_, _, rfl, hrow⟩⟩
  · have hb : (setErr f r != 0) = true := by simpa using h0
    have HV := Lib.hid (show E = setErr f r by rw [HE.out, if_pos h0])
    have H0 := Lib.hid h0
    clear h0 HE hF hR
    go_enter Tryz.func50, Tryz.ntmps50
    go_wp2_with fail
    refine HSO.out.mono ?_
    rintro e w1 ⟨hb1, hp1⟩
    rw [if_neg H0.out] at hp1
    subst hp1
    have hlow1 := hb0.trans (hb1.mono hb0.size)
    have hlow2 := hlow1.alloc hlow1.size (.cells #[.string ⟨#[]⟩, .int .i64 0, .slice none 0 0, .slice none 0 0, .map none, .map none, .int .i64 0, .int .i64 0] 183)
    unfold noSet
    clear hb1 hb0 HSO hlow1
    go_wp2
    go_ret2
    rw [HV.out]
    exact ⟨hlow2, by rw [if_neg H0.out]; try rfl⟩
end Go.Proofs.YtpoadjnhmdbdeaaGreatDoor

/-
  Words: the reference's walk.
-/
namespace Go.Proofs.YtpoadjnhmdbdeaaGreatDoor
open Go.RowKit Go.Maps Go.Shelf

/-- A list of words that is one's own. -/
def WOwn (w : World) (B : Nat) (v : Value) (n : Nat) (fn : Nat → List Int × List Int) : Prop :=
  ∃ xs, w.ownsRow B 121 2 v n xs ∧ ∀ j, j < n → ∃ v1 v2, xs[j * 2]? = some v1 ∧ xs[j * 2 + 1]? = some v2 ∧ IRow w B v1 (fn j).1 ∧ IRow w B v2 (fn j).2
theorem own_monoG {w : World} {base base' e n size : Nat} {v : Value} {xs : List Value} (h : w.ownsRow base e size v n xs) (hB : base' ≤ base) : w.ownsRow base' e size v n xs := by
  rcases h.2 with ⟨e1, e2⟩ | ⟨g, cap, cur, e1, e2, e3, e4⟩
  · exact ⟨h.1, Or.inl ⟨e1, e2⟩⟩
  · exact ⟨h.1, Or.inr ⟨g, cap, cur, e1, Nat.le_trans hB e2, e3, e4⟩⟩
theorem WOwn.nil (w : World) (B : Nat) (fn : Nat → List Int × List Int) : WOwn w B (.slice none 0 0) 0 fn := ⟨[], World.ownsRow_nil _ _ _ _, fun _ hj => absurd hj (Nat.not_lt_zero _)⟩
theorem WOwn.below {w w' : World} {B n : Nat} {v : Value} {fn : Nat → List Int × List Int} (h : WOwn w B v n fn) (hb : Below w.heap.size w w') : WOwn w' B v n fn := by
  obtain ⟨xs, h1, h2⟩ := h
  refine ⟨xs, own_low2 h1 hb, fun j hj => ?_⟩
  obtain ⟨v1, v2, e1, e2, i1, i2⟩ := h2 j hj
  exact ⟨v1, v2, e1, e2, i1.below hb, i2.below hb⟩
theorem WOwn.mono {w : World} {B B' n : Nat} {v : Value} {fn : Nat → List Int × List Int} (h : WOwn w B v n fn) (hB : B' ≤ B) : WOwn w B' v n fn := by
  obtain ⟨xs, h1, h2⟩ := h
  refine ⟨xs, own_monoG h1 hB, fun j hj => ?_⟩
  obtain ⟨v1, v2, e1, e2, i1, i2⟩ := h2 j hj
  exact ⟨v1, v2, e1, e2, i1.mono hB, i2.mono hB⟩
def RWordsPost (w : World) (E : Int) (n : Nat) (fn : Nat → List Int × List Int) (e : Ending) (w' : World) : Prop :=
  Below w.heap.size w w' ∧ if E = 0 then ∃ v, e = .returned (.tuple #[v, .int .i64 0]) ∧ WOwn w' w.heap.size v n fn else e = .returned (.tuple #[.slice none 0 0, .int .i64 E])
/-- What lies between two rounds of the inner loop: the word's box, and all that was there ahead of it. -/
structure XBox (W6 : World) (X : Nat) (v vb : Value) (L : List Int) (wi : World) : Prop where
  box : wi.heap[X]? = some (.cells #[v, vb] 121 (0, 0))
  row : IRow wi W6.heap.size vb L
  kept : KeptBut X W6 wi
theorem irow_grown {w w' : World} {base : Nat} {u : Value} {l : List Int} {row : Option Nat} (h : IRow w base u l) (hg : w.grownBy w' row) (hne : ∀ g, u.ownBlock = some g → some g ≠ row) : IRow w' base u l := by
  rcases h.2 with ⟨e1, e2⟩ | ⟨g, cap, cur, e1, e2, e3, e4⟩
  · exact ⟨h.1, Or.inl ⟨e1, e2⟩⟩
  · exact ⟨h.1, Or.inr ⟨g, cap, cur, e1, e2, (hg.block g (heap_lt e3) (hne g (by rw [e1]; try rfl))).trans e3, e4⟩⟩
theorem ints_but {W V : World} {X : Nat} {A : Option Addr} {l : List Int} {v1 v2 : Value} {T : TypeId} (h : IntsAt W A l) (hx : W.heap[X]? = some (.cells #[v1, v2] T (0, 0))) (h1 : ∀ n, v1 ≠ .int .i64 n) (h2 : ∀ n, v2 ≠ .int .i64 n) (hk : KeptBut X W V) : IntsAt V A l := fun k hk' => by
  obtain ⟨ad, e, hlt, hs⟩ := h k hk'
  refine ⟨ad, e, Nat.lt_of_lt_of_le hlt hk.size, ?_⟩
  have hne : (ad.add k).block ≠ X := by
    intro eb
    unfold World.cell? at hs
    rw [eb, hx] at hs
    dsimp only at hs
    by_cases hsp : (ad.add k).spot.isSome
    · rw [if_pos hsp] at hs; cases hs
    · rw [if_neg hsp] at hs
      rcases ho : (ad.add k).off with _ | _ | m
      · rw [ho] at hs; exact h1 _ (by simpa using hs)
      · rw [ho] at hs; exact h2 _ (by simpa using hs)
      · rw [ho] at hs; simp at hs
  have hb := hk.block _ (by rw [add_block]; exact hlt) hne
  rw [World.cell?_of_block hb]
  exact hs
theorem wpList_appW {ops : Array Oper} {rest : List Oper} {o : Oper} {a : Act} {Q : Exit → Act → World → Prop} (w0 : World) (v1 v2 : Value) (l1 l2 : List Int) (hgd : o.guard = none) (s x : Operand)
    (ho : o.op = .call { callee := .builtin .append, args := #[s, x], argTypes := #[79, 79] }) (B n : Nat) (fn : Nat → List Int × List Int) (v : Value) (hs : a.eval s = v) (hown : WOwn w0 B v n fn)
    (i1 : IRow w0 B v1 l1) (i2 : IRow w0 B v2 l2) (hfn : fn n = (l1, l2)) (hx : a.eval x = .slice (some ⟨w0.heap.size, 0, none⟩) 1 1) (hn : n ≤ 1000000) (hB : B ≤ w0.heap.size)
    (h : ∀ v' w', WOwn w' B v' (n + 1) fn → Below B w0 w' → wpList Tryz.prog ops Q rest (a.put o.dst v') w') :
    wpList Tryz.prog ops Q (o :: rest) a (w0.alloc (.cells #[v1, v2] 121)) := by
  obtain ⟨i0, hi0, hz0, hz1, hz2⟩ := info_parts infoPW
  obtain ⟨xs, hrow, hwds⟩ := hown
  have hb0 := (Below.refl w0.heap.size w0).alloc (Nat.le_refl _) (.cells #[v1, v2] 121)
  have hrow0 := own_low2 hrow hb0
  have j1 := i1.below hb0
  have j2 := i2.below hb0
  obtain ⟨a1, c1, e1, -, -, -⟩ := i1.shape
  obtain ⟨a2, c2, e2, -, -, -⟩ := i2.shape
  have hone : ∀ u ∈ [v1, v2], u.oneCell' = true := by
    intro u hu
    rcases List.mem_cons.1 hu with rfl | hu
    · rw [e1]; try rfl
    · rw [List.mem_singleton.1 hu, e2]; try rfl
  refine wpList_append_own _ hgd s x 79 ho B 121 i0 _ 2 48 Tryz.underlying79 hi0 hz0 hz1 hz2 rfl (by decide) v n xs hs hrow0 ⟨w0.heap.size, 0, none⟩ 1 1 [v1, v2] hx rfl
    (by simpa using World.news_of_block (cs := #[v1, v2]) (t := 121) (fr := (0, 0)) (heap_alloc_new w0 _)) hone (by unfold maxLen; omega) (by omega) (by simp; omega) ?_
  intro v' w' hown' hgrow' _
  have hlen := hrow.1
  have off : ∀ (u : Value) (l : List Int), IRow (w0.alloc (.cells #[v1, v2] 121)) B u l → IRow w' B u l := fun u l hu => by
    refine irow_grown hu hgrow' (fun g hg => ?_)
    rcases own_apart hu hrow0 (by decide) with hh | hh
    · rw [hg] at hh; cases hh
    · rw [hg] at hh; exact hh
  refine h v' w' ⟨_, hown', fun j hj => ?_⟩ ?_
  · by_cases hj2 : j < n
    · obtain ⟨u1, u2, f1, f2, k1, k2⟩ := hwds j hj2
      refine ⟨u1, u2, ?_, ?_, off _ _ (k1.below hb0), off _ _ (k2.below hb0)⟩
      · rw [List.getElem?_append_left (by omega)]; exact f1
      · rw [List.getElem?_append_left (by omega)]; exact f2
    · obtain rfl : j = n := by omega
      rw [hfn]
      refine ⟨v1, v2, ?_, ?_, off _ _ j1, off _ _ j2⟩
      · rw [List.getElem?_append_right (by omega), hlen, Nat.sub_self]; try rfl
      · rw [List.getElem?_append_right (by omega), hlen, show j * 2 + 1 - j * 2 = 1 by omega]; try rfl
  · exact (hb0.mono hB).trans ⟨hgrow'.os, hgrow'.tape, hgrow'.output, hgrow'.size, fun k hk => hgrow'.block k (by simp; omega) (fun e => by have := hrow0.lt k e.symm; omega)⟩
set_option maxRecDepth 100000 in
set_option maxHeartbeats 8000000 in
theorem refWords_any (f : FT) (a : Option Addr) (c : Nat) (r : RU) (b : Option Addr) (ws : List ByteArray) (d : Nat) (w : World) (hF : SortsAt w a f.sorts) (hR : r.at_ w) (hSm : RSmall r) (hcf : (checkF f).2 = 0) (hcr : (checkR r).2 = 0) (hX : TextsAt w b ws) (hl : ws.length ≤ maxLen) (hS : ∀ k, k < ws.length → (ws.getD k noTx).size ≤ 1000) :
    Calls Tryz.prog 53 #[.agg #[.string f.name, .int .i64 f.body, .slice a f.sorts.length c], .agg r.cells, .slice b ws.length d] w (RWordsPost w (wordsE f r ws) ws.length (wordsX f r ws)) := by
  have hK0 := frk_start w f a c r
  have hl' : ws.length ≤ 9223372036854775807 := by unfold maxLen at hl; omega
  have HX := Lib.hid hX
  have HFS := Lib.hid hF
  have HSO := Lib.hid (fun s W (h : FRK w f a c r W) (hs : s.size ≤ 1000) => refSortsOf_any f a c r s W (hF.below h.low) (hR.below h.low) hSm hcf hcr hs)
  have HHY := Lib.hid (fun s W (h : FRK w f a c r W) (hs : s.size ≤ 30) => refHyphens_any r s W (hR.below h.low) hSm hcr hs)
  have HTB := Lib.hid (fun k (hk : k < f.sorts.length) => text_bd hcf hk)
  have HPB := Lib.hid (fun (L : List Int) (hL : OkIdx L f.sorts.length) => plOf_bd hcf hL)
  have HHB := Lib.hid (fun s (h : wordErr s = 0) => (hyph_bounds (ruleErr_of hcr h)).2.1)
  obtain ⟨E, hE⟩ : ∃ E, E = wordsE f r ws := ⟨_, rfl⟩
  have HE := Lib.hid hE
  rw [← hE]
  unfold RU.cells at *
  clear hE hX hF hR hcf hcr
  by_cases h100 : 100 < ws.length
  · have h100' : (100 : Int) < (ws.length : Int) := by omega
    have HV := Lib.hid (show E = 8 by rw [HE.out]; unfold wordsE; rw [if_pos h100])
    have hlow := hK0.low
    go_enter Tryz.func53, Tryz.ntmps53
    go_wp2
    go_ret2
    rw [HV.out]
    exact ⟨hlow, rfl⟩
  have h100' : ¬ (100 : Int) < (ws.length : Int) := by omega
  have hd100 : decide ((100 : Int) < (ws.length : Int)) = false := decide_eq_false h100'
  have hd100n : decide (100 < ws.length) = false := decide_eq_false h100
  have HE3 := Lib.hid (show E = match firstAt (badW f r ws) (ws.length - 0) 0 with | none => 0 | some i => wErrO f r (ws.getD i noTx) by rw [HE.out]; unfold wordsE; rw [if_neg h100]; try rfl)
  clear h100
  go_enter Tryz.func53, Tryz.ntmps53
  go_wp2_with fail
  go_loopw [8, 9] (fun v8 v9 wr => ∃ k : Nat, k ≤ ws.length ∧ v9 = .int .i64 k ∧ Hid (firstAt (badW f r ws) (ws.length - 0) 0 = firstAt (badW f r ws) (ws.length - k) k) ∧ FRK w f a c r wr ∧ WOwn wr (w.heap.size + 2) v8 k (wordsX f r ws)) (fun _ v9 _ => ws.length - (intOf v9).toNat)
  case atStart => exact ⟨0, Nat.zero_le _, rfl, Lib.hid rfl, hK0, WOwn.nil _ _ _⟩
  case round =>
    obtain ⟨k, hk, rfl, HS, hK, hown⟩ := hrel
    clear hK0
    by_cases hlt : k < ws.length
    · have hkl : (k : Int) < (ws.length : Int) := by omega
      have hk0 : (0 : Int) ≤ (k : Int) := by omega
      obtain ⟨p1, rfl, hp1, hc1⟩ := (HX.out.below hK.low).at_ hlt
      have hsz := hS k hlt
      have hbw : badW f r ws k = (wErrO f r (ws.getD k noTx) != 0) := rfl
      have hwx : wordsX f r ws k = wordX f r (ws.getD k noTx) := rfl
      have hvE : wErrO f r (ws.getD k noTx) = if wordErr (ws.getD k noTx) ≠ 0 then wordErr (ws.getD k noTx) else match wordSet f r (ws.getD k noTx) with | none => 6 | some _ => 0 := rfl
      have hvX : wordX f r (ws.getD k noTx) = match wordSet f r (ws.getD k noTx) with | none => ([], []) | some l => (l, wordBr f r (ws.getD k noTx) l) := rfl
      have HEk := Lib.hid (fun (h : firstAt (badW f r ws) (ws.length - k) k = some k) => show E = wErrO f r (ws.getD k noTx) by rw [HE3.out, HS.out, h])
      obtain ⟨t, ht⟩ : ∃ t, t = ws.getD k noTx := ⟨_, rfl⟩
      rw [← ht] at hc1 hsz hbw hwx hvE hvX HEk
      have HBW := Lib.hid hbw
      have HWX := Lib.hid hwx
      have HVE := Lib.hid hvE
      have HVX := Lib.hid hvX
      clear ht hbw hwx hvE hvX
      have HIW := Lib.hid (fun W => refIsWord_any t W (by unfold maxLen; omega))
      cases hw : isWordB t
      · have hwe : wordErr t = 3 := by unfold wordErr; rw [hw]; try rfl
        have hE3 : wErrO f r t = 3 := by rw [HVE.out, hwe]; try rfl
        have hnb : badW f r ws k = true := by rw [HBW.out, hE3]; try rfl
        have HTN := Lib.hid (firstAt_stop hlt hnb)
        have HV := Lib.hid (show E = 3 by rw [HEk.out HTN.out, hE3])
        have hlow := hK.low
        clear hnb hE3 hwe
        go_wp2_with fail
        refine (HIW.out _).mono ?_
        rintro e w3 ⟨rfl, rfl⟩
        rw [hw]
        go_wp2
        go_ret2
        rw [HV.out]
        exact ⟨hlow, rfl⟩
      · have hwe : wordErr t = 0 := by unfold wordErr; rw [hw]; try rfl
        have ht30 := (word_size hwe).2
        have HWE := Lib.hid hwe
        have HRS := Lib.hid (fun W (h : FRK w f a c r W) => HSO.out t W h (by omega))
        have HRH := Lib.hid (fun W (h : FRK w f a c r W) => HHY.out t W h ht30)
        have HOI := Lib.hid (fun l (h : wordSet f r t = some l) => And.intro (wordSet_idx h) (wordSet_len h))
        obtain ⟨o, ho⟩ : ∃ o, o = wordSet f r t := ⟨_, rfl⟩
        rw [← ho] at HRS HOI
        have HO := Lib.hid ho
        obtain ⟨c0, c1, c2⟩ := hK.fc
        obtain ⟨d0, d1, d2, d3, d4⟩ := hK.rc
        have hlt1 := hK.lt
        have hlt0 : w.heap.size < wr.heap.size := by omega
        clear ho hwe
        have hp1b : (p1.add k).block < wr.heap.size := by rw [add_block]; exact hp1
        cases o with
        | none =>
          have hE6 : wErrO f r t = 6 := by rw [HVE.out, HWE.out, ← HO.out]; try rfl
          have hnb : badW f r ws k = true := by rw [HBW.out, hE6]; try rfl
          have HTN := Lib.hid (firstAt_stop hlt hnb)
          have HV := Lib.hid (show E = 6 by rw [HEk.out HTN.out, hE6])
          clear hnb hE6
          go_wp2_with fail
          refine (HIW.out _).mono ?_
          rintro e w3 ⟨rfl, rfl⟩
          rw [hw]
          go_wp2_with fail
          go_region_held3 (fun w' => w'.cell? ⟨w.heap.size, 0, none⟩ = some (.string f.name) ∧ w'.cell? ⟨w.heap.size, 1, none⟩ = some (.int .i64 f.body) ∧ w'.cell? ⟨w.heap.size, 2, none⟩ = some (.slice a f.sorts.length c) ∧ w'.cell? ⟨w.heap.size + 1, 0, none⟩ = some (.slice r.ps.a r.ps.l.length r.ps.c) ∧ w'.cell? ⟨w.heap.size + 1, 1, none⟩ = some (.slice r.es.a r.es.l.length r.es.c) ∧ w'.cell? ⟨w.heap.size + 1, 2, none⟩ = some (.slice r.bs.a r.bs.l.length r.bs.c) ∧ w'.cell? ⟨w.heap.size + 1, 3, none⟩ = some (.int .i64 r.left) ∧ w'.cell? ⟨w.heap.size + 1, 4, none⟩ = some (.int .i64 r.right) ∧ w'.cell? (p1.add k) = some (.string t)) (go_keep)
            (first | (go_at_call 44; refine (HRS.out _ (by first | exact hK | exact ⟨hK.fb, hK.rb, hK.low.drew⟩)).mono ?_; rintro e w4 ⟨hb4d, rfl⟩; have hb4 : Below wr.heap.size wr w4 := (Below.refl _ _).drew.trans hb4d; have k0 := (hb4.cell (p := ⟨w.heap.size, 0, none⟩) hlt0).trans c0; have k1 := (hb4.cell (p := ⟨w.heap.size, 1, none⟩) hlt0).trans c1; have k2 := (hb4.cell (p := ⟨w.heap.size, 2, none⟩) hlt0).trans c2; have k3 := (hb4.cell (p := ⟨w.heap.size + 1, 0, none⟩) hlt1).trans d0; have k4 := (hb4.cell (p := ⟨w.heap.size + 1, 1, none⟩) hlt1).trans d1; have k5 := (hb4.cell (p := ⟨w.heap.size + 1, 2, none⟩) hlt1).trans d2; have k6 := (hb4.cell (p := ⟨w.heap.size + 1, 3, none⟩) hlt1).trans d3; have k7 := (hb4.cell (p := ⟨w.heap.size + 1, 4, none⟩) hlt1).trans d4; have k8 := (hb4.cell (p := p1.add k) hp1b).trans hc1))
          have hlow := (hK.below hb4).low
          go_wp2
          go_ret2
          rw [HV.out]
          exact ⟨hlow, rfl⟩
        | some l =>
          go_wp2_with fail
          refine (HIW.out _).mono ?_
          rintro e w3 ⟨rfl, rfl⟩
          rw [hw]
          go_wp2_with fail
          go_region_held3 (fun w' => w'.cell? ⟨w.heap.size, 0, none⟩ = some (.string f.name) ∧ w'.cell? ⟨w.heap.size, 1, none⟩ = some (.int .i64 f.body) ∧ w'.cell? ⟨w.heap.size, 2, none⟩ = some (.slice a f.sorts.length c) ∧ w'.cell? ⟨w.heap.size + 1, 0, none⟩ = some (.slice r.ps.a r.ps.l.length r.ps.c) ∧ w'.cell? ⟨w.heap.size + 1, 1, none⟩ = some (.slice r.es.a r.es.l.length r.es.c) ∧ w'.cell? ⟨w.heap.size + 1, 2, none⟩ = some (.slice r.bs.a r.bs.l.length r.bs.c) ∧ w'.cell? ⟨w.heap.size + 1, 3, none⟩ = some (.int .i64 r.left) ∧ w'.cell? ⟨w.heap.size + 1, 4, none⟩ = some (.int .i64 r.right) ∧ w'.cell? (p1.add k) = some (.string t)) (go_keep)
            (first | (go_at_call 44; refine (HRS.out _ (by first | exact hK | exact ⟨hK.fb, hK.rb, hK.low.drew⟩)).mono ?_; rintro e w4 ⟨hb4d, v4, rfl, hI4⟩; have hb4 : Below wr.heap.size wr w4 := (Below.refl _ _).drew.trans hb4d; have k0 := (hb4.cell (p := ⟨w.heap.size, 0, none⟩) hlt0).trans c0; have k1 := (hb4.cell (p := ⟨w.heap.size, 1, none⟩) hlt0).trans c1; have k2 := (hb4.cell (p := ⟨w.heap.size, 2, none⟩) hlt0).trans c2; have k3 := (hb4.cell (p := ⟨w.heap.size + 1, 0, none⟩) hlt1).trans d0; have k4 := (hb4.cell (p := ⟨w.heap.size + 1, 1, none⟩) hlt1).trans d1; have k5 := (hb4.cell (p := ⟨w.heap.size + 1, 2, none⟩) hlt1).trans d2; have k6 := (hb4.cell (p := ⟨w.heap.size + 1, 3, none⟩) hlt1).trans d3; have k7 := (hb4.cell (p := ⟨w.heap.size + 1, 4, none⟩) hlt1).trans d4; have k8 := (hb4.cell (p := p1.add k) hp1b).trans hc1))
          obtain ⟨A4, q4, rfl, hIn4, -, -⟩ := hI4.shape
          have hK4 := hK.below hb4
          have hown4 := hown.below hb4
          obtain ⟨hOI1, hOI2⟩ := HOI.out l (by simp)
          have hOI3 : l.length ≤ 30 := by omega
          have hx5 := heap_new w4 (.cells #[.slice A4 l.length q4, .slice none 0 0] 121)
          have hb5 := (Below.refl w4.heap.size w4).alloc (Nat.le_refl _) (.cells #[.slice A4 l.length q4, .slice none 0 0] 121)
          have hlt4 := hK4.lt
          obtain ⟨X, hXe⟩ : ∃ X, X = w4.heap.size := ⟨_, rfl⟩
          have hc4 : w4.cell? (p1.add k) = some (.string t) := k8
          clear hK hown c0 c1 c2 d0 d1 d2 d3 d4 hc1 HRS hb4 k0 k1 k2 k3 k4 k5 k6 k7 k8
          go_wp2_with fail
          obtain ⟨wA, hwA⟩ : ∃ wA, wA = w4.alloc (.cells #[.slice A4 l.length q4, .slice none 0 0] 121) := ⟨_, rfl⟩
          have hszA : wA.heap.size = w4.heap.size + 1 := by rw [hwA]; simp
          rw [← hwA] at hx5 hb5 ⊢
          clear hwA
          have hKA := hK4.below hb5
          obtain ⟨d0, d1, d2, d3, d4⟩ := hKA.rc
          have hltA := hKA.lt
          have hpb := World.block_lt_of_cell? _ _ hc4
          have hcA := (hb5.cell hpb).trans hc4
          have hpbA : (p1.add k).block < wA.heap.size := Nat.lt_of_lt_of_le hpb hb5.size
          go_region_held3 (fun w' => w'.cell? ⟨w.heap.size + 1, 0, none⟩ = some (.slice r.ps.a r.ps.l.length r.ps.c) ∧ w'.cell? ⟨w.heap.size + 1, 1, none⟩ = some (.slice r.es.a r.es.l.length r.es.c) ∧ w'.cell? ⟨w.heap.size + 1, 2, none⟩ = some (.slice r.bs.a r.bs.l.length r.bs.c) ∧ w'.cell? ⟨w.heap.size + 1, 3, none⟩ = some (.int .i64 r.left) ∧ w'.cell? ⟨w.heap.size + 1, 4, none⟩ = some (.int .i64 r.right) ∧ w'.cell? (p1.add k) = some (.string t)) (go_keep)
            (first | (go_at_call 64; refine (HRH.out _ (by first | exact hKA | exact ⟨hKA.fb, hKA.rb, hKA.low.drew⟩)).mono ?_; rintro e w6 ⟨⟨A6, q6, rfl, hI6⟩, hb6d⟩; have hb6 : Below wA.heap.size wA w6 := (Below.refl _ _).drew.trans hb6d; have k3 := (hb6.cell (p := ⟨w.heap.size + 1, 0, none⟩) hltA).trans d0; have k4 := (hb6.cell (p := ⟨w.heap.size + 1, 1, none⟩) hltA).trans d1; have k5 := (hb6.cell (p := ⟨w.heap.size + 1, 2, none⟩) hltA).trans d2; have k6 := (hb6.cell (p := ⟨w.heap.size + 1, 3, none⟩) hltA).trans d3; have k7 := (hb6.cell (p := ⟨w.heap.size + 1, 4, none⟩) hltA).trans d4; have k8 := (hb6.cell (p := p1.add k) hpbA).trans hcA))
          have hb6' : Below wA.heap.size wA w6 := (Below.refl _ _).drew.trans hb6d
          have hK6 := hKA.below hb6'
          have hx6 := (hb6'.block _ (heap_lt hx5)).trans hx5
          have hb46 : Below w4.heap.size w4 w6 := hb5.trans (hb6'.mono (by omega))
          have hs6 : w4.heap.size < w6.heap.size := heap_lt hx6
          have hown6 := hown4.below hb46
          have hI6v := hI4.below hb46
          have HHl := HHB.out t HWE.out
          have HCN := Lib.hid (fun W n (h : KeptBut w4.heap.size w6 W) => has_any A6 (ruleHyph r t) _ q6 n W (ints_but hI6 hx6 (by intro n h; cases h) (by intro n h; cases h) h) rfl (by unfold maxLen; omega))
          have HSO2 := Lib.hid (fun W (h : KeptBut w4.heap.size w6 W) => show FRK w f a c r W from hK4.below (hb46.trans (h.low (Nat.le_refl _) (Nat.le_of_lt hs6))))
          have hI4w : IRow w4 (w.heap.size + 2) (.slice A4 l.length q4) l := hI4.mono (by show w.heap.size + 2 ≤ wr.heap.size; omega)
          have HI4 := Lib.hid (fun W (h : KeptBut w4.heap.size w6 W) => show IRow W (w.heap.size + 2) (.slice A4 l.length q4) l from hI4w.below (hb46.trans (h.low (Nat.le_refl _) (Nat.le_of_lt hs6))))
          have HIN := Lib.hid (fun W (h : KeptBut w4.heap.size w6 W) => show IntsAt W A4 l from hIn4.below (hb46.trans (h.low (Nat.le_refl _) (Nat.le_of_lt hs6))))
          have HOW := Lib.hid (fun W (h : KeptBut w4.heap.size w6 W) => show WOwn W (w.heap.size + 2) u8 k (wordsX f r ws) from hown4.below (hb46.trans (h.low (Nat.le_refl _) (Nat.le_of_lt hs6))))
          have hHn : ((ruleHyph r t).length : Int) ≤ 1001 := by omega
          have HPL := Lib.hid (HPB.out l hOI1)
          clear hK6 hKA hb6' hb6d hb5 hI6 hx5 hcA hc4 d0 d1 d2 d3 d4 hpb hpbA hown4 hK4
          go_wp2_with fail
          go_loopw [14, 15] (fun v14 v15 wi => ∃ q : Nat, ∃ vb : Value, q ≤ l.length ∧ v15 = .int .i64 q ∧ v14 = .int .i64 (plOf f l q) ∧ XBox w6 w4.heap.size (.slice A4 l.length q4) vb (brTo f (ruleHyph r t) l q) wi) (fun _ v15 _ => l.length - (intOf v15).toNat)
          case atStart => exact ⟨0, _, Nat.zero_le _, rfl, rfl, hx6, IRow.nil _ _, KeptBut.refl _ _⟩
          case round =>
            obtain ⟨q, vb, hq, rfl, rfl, hbox⟩ := hrel
            have hKi := HSO2.out wr hbox.kept
            by_cases hql : q < l.length
            · have hql' : (q : Int) < (l.length : Int) := by omega
              obtain ⟨ad, rfl, hal, hy⟩ := (HIN.out wr hbox.kept).at_ hql
              obtain ⟨x, hx, ex⟩ := hOI1 q hql
              obtain ⟨ad2, rfl, had2, hsx⟩ := HFS.out.at_ hx
              rw [ex] at hy
              have c2 := hKi.fc.2.2
              have tw := hsx.2.1
              have htb := HTB.out x hx
              have hpb := HPL.out q hq
              have HPN := Lib.hid (show plOf f l (q + 1) = plOf f l q + ((f.sorts.getD x noTS).text.size : Int) by
                show plOf f l q + ((f.sorts.getD (l.getD q 0).toNat noTS).text.size : Int) = _
                rw [ex, Int.toNat_natCast])
              have HST := Lib.hid (show brTo f (ruleHyph r t) l (q + 1) = if plOf f l q ∈ ruleHyph r t then brTo f (ruleHyph r t) l q ++ [(q : Int)] else brTo f (ruleHyph r t) l q from rfl)
              generalize (f.sorts.getD x noTS).text = xt at tw htb HPN
              have t1 := (hKi.low.cell (p := ⟨(ad2.add (x * 4)).block, (ad2.add (x * 4)).off + 1, none⟩) (by rw [add_block]; exact had2)).trans tw
              have hxl : (x : Int) < (f.sorts.length : Int) := by omega
              have hx0 : (0 : Int) ≤ (x : Int) := by omega
              have hbl := brTo_len f (ruleHyph r t) l q
              obtain ⟨P, hP⟩ : ∃ P, P = plOf f l q := ⟨_, rfl⟩
              rw [← hP] at hpb HPN HST ⊢
              have HC := Lib.hid (HCN.out wr P hbox.kept)
              have hk := hbox.kept
              have hbx := hbox.box
              have hrw := hbox.row
              obtain ⟨a9, d9, hv9, -, -, -⟩ := hrw.shape
              subst hv9
              have HEX := Lib.hid ex
              clear hP hsx ex hKi hbox
              by_cases hm : P ∈ ruleHyph r t
              · have HST2 := Lib.hid (HST.out.trans (if_pos hm))
                rw [decide_eq_true hm] at HC
                have y1 : wr.cell? ⟨w4.heap.size, 1, none⟩ = some (.slice a9 (brTo f (ruleHyph r t) l q).length d9) := cell_of_row wr _ 1 _ _ (0, 0) hbx
                have hbl2 := hk.size
                have hq1 : (brTo f (ruleHyph r t) l q).length ≤ 1000000 := by omega
                clear hm HST
                go_wp2_with fail
                refine HC.out.mono ?_
                rintro e w9 ⟨rfl, rfl⟩
                go_wp2_with (at_builtin; refine wpList_app1 wr _ rfl _ _ rfl w6.heap.size _ (brTo f (ruleHyph r t) l q) rfl hrw rfl hq1 hbl2 ?_; intro g9 c9 w9 hrow9 hgrow9 hb9; have box9 := (hb9.block _ hs6).trans hbx; have y9 : w9.cell? ⟨w4.heap.size, 1, none⟩ = some (.slice a9 (brTo f (ruleHyph r t) l q).length d9) := cell_of_row w9 _ 1 _ _ (0, 0) box9; have z9 : w9.frozen? ⟨w4.heap.size, 1, none⟩ = false := (by simp [World.frozen?, box9]); have hk9 := (hk.below hb9).set_ ⟨w4.heap.size, 1, none⟩ rfl (.slice (some ⟨g9, 0, none⟩) ((brTo f (ruleHyph r t) l q).length + 1) c9); have hK9 := HSO2.out _ hk9; have c9' := hK9.fc.2.2; obtain ⟨ad', e9', -, hy9⟩ := (HIN.out _ hk9).at_ hql; cases e9'; rw [HEX.out] at hy9; have t9 := (hK9.low.cell (p := ⟨(ad2.add (x * 4)).block, (ad2.add (x * 4)).off + 1, none⟩) (by rw [add_block]; exact had2)).trans tw; have box10 := heap_set2 box9 1 (.slice (some ⟨g9, 0, none⟩) ((brTo f (ruleHyph r t) l q).length + 1) c9); have hrow10 := own_put hrow9 box9 (by decide) 1 (.slice (some ⟨g9, 0, none⟩) ((brTo f (ruleHyph r t) l q).length + 1) c9); clear hK9 hb9 hgrow9 hrow9)
                go_quiet (fail)
                go_wp2
                go_roundw
                case rel => exact ⟨q + 1, _, by omega, by go_num, by rw [HPN.out], by rw [HST2.out]; exact ⟨box10, (show IRow _ _ (.slice (some ⟨g9, 0, none⟩) ((brTo f (ruleHyph r t) l q).length + 1) c9) _ from hrow10).drewN _, hk9.drewN _⟩⟩
                case measure => simp [intOf]; omega
              · have HST2 := Lib.hid (HST.out.trans (if_neg hm))
                rw [decide_eq_false hm] at HC
                clear hm HST
                go_wp2_with fail
                refine HC.out.mono ?_
                rintro e w9 ⟨rfl, rfl⟩
                go_wp2_with fail
                go_quiet (fail)
                go_wp2
                go_roundw
                case rel => exact ⟨q + 1, _, by omega, by go_num, by rw [HPN.out], by rw [HST2.out]; exact ⟨hbx, hrw.drewN _, hk.drewN _⟩⟩
                case measure => simp [intOf]; omega
            · obtain rfl : q = l.length := by omega
              have hql' : ¬ (l.length : Int) < (l.length : Int) := by omega
              have hkp := hbox.kept
              have hKi2 := HSO2.out wr hkp
              have hWO := HOW.out wr hkp
              have hj1 := HI4.out wr hkp
              have hj2 := hbox.row.mono (show w.heap.size + 2 ≤ w6.heap.size by omega)
              have y0 : wr.cell? ⟨w4.heap.size, 0, none⟩ = some (.slice A4 l.length q4) := cell_of_row wr _ 0 _ _ (0, 0) hbox.box
              have y1 : wr.cell? ⟨w4.heap.size, 1, none⟩ = some vb := cell_of_row wr _ 1 _ _ (0, 0) hbox.box
              have hlt9 := hKi2.lt
              have hfn : wordsX f r ws k = (l, brTo f (ruleHyph r t) l l.length) := by rw [HWX.out, HVX.out, ← HO.out]; try rfl
              have hnb : badW f r ws k = false := by rw [HBW.out, HVE.out, HWE.out, ← HO.out]; try rfl
              have HTN := Lib.hid (firstAt_go hlt hnb)
              have HFN := Lib.hid hfn
              have hk6 : k ≤ 1000000 := by omega
              obtain ⟨xs8, hrow8, -⟩ := id hWO
              obtain ⟨a8, d8, hv8, -, -⟩ := own_form hrow8
              subst hv8
              obtain ⟨a9, d9, hv9, -, -, -⟩ := hj2.shape
              subst hv9
              clear hbox hnb hfn hKi hrow8
              go_wp2_with (at_builtin; refine wpList_appW wr _ _ l (brTo f (ruleHyph r t) l l.length) rfl _ _ rfl (w.heap.size + 2) k (wordsX f r ws) _ rfl hWO hj1 hj2 HFN.out rfl hk6 hlt9 ?_; intro v7 w7 hown7 hb7; obtain ⟨xs7, hrow7, -⟩ := id hown7; obtain ⟨a7, d7, hv7, -, -⟩ := own_form hrow7; subst hv7; clear hrow7)
              go_roundw
              case rel => exact ⟨k + 1, by omega, by go_num, Lib.hid (HS.out.trans HTN.out), ⟨(hb7.block _ (by omega)).trans hKi2.fb, (hb7.block _ (by omega)).trans hKi2.rb, hKi2.low.trans (hb7.mono (by omega))⟩, hown7⟩
              case measure => simp [intOf]; omega
    · obtain rfl : k = ws.length := by omega
      have hkl : ¬ (ws.length : Int) < (ws.length : Int) := by omega
      have HTN := Lib.hid (firstAt_end (q := badW f r ws) hlt)
      have HV := Lib.hid (show E = 0 by rw [HE3.out, HS.out, HTN.out])
      have hlow := hK.low
      have hown9 := hown.mono (show w.heap.size ≤ w.heap.size + 2 by omega)
      clear hK hown
      go_wp2
      go_ret2
      rw [HV.out]
      exact ⟨hlow, _, rfl, hown9⟩
end Go.Proofs.YtpoadjnhmdbdeaaGreatDoor

/-
  law02.words: two lists of words that are the same.
-/
namespace Go.Proofs.YtpoadjnhmdbdeaaGreatDoor
open Go.RowKit Go.Maps Go.Shelf

/-- A list of words as it is read: the words are those of fn. -/
def WView (w : World) (A : Option Addr) (n : Nat) (fn : Nat → List Int × List Int) : Prop :=
  ∀ j, j < n → ∃ g a1 c1 a2 c2, A = some ⟨g, 0, none⟩ ∧ g < w.heap.size ∧ w.cell? ⟨g, j * 2, none⟩ = some (.slice a1 (fn j).1.length c1) ∧ w.cell? ⟨g, j * 2 + 1, none⟩ = some (.slice a2 (fn j).2.length c2) ∧ IntsAt w a1 (fn j).1 ∧ IntsAt w a2 (fn j).2
theorem WView.below {w w' : World} {A : Option Addr} {n : Nat} {fn : Nat → List Int × List Int} (h : WView w A n fn) (hb : Below w.heap.size w w') : WView w' A n fn := fun j hj => by
  obtain ⟨g, a1, c1, a2, c2, e, hg, h1, h2, i1, i2⟩ := h j hj
  exact ⟨g, a1, c1, a2, c2, e, Nat.lt_of_lt_of_le hg hb.size, (hb.cell (p := ⟨g, j * 2, none⟩) hg).trans h1, (hb.cell (p := ⟨g, j * 2 + 1, none⟩) hg).trans h2, i1.below hb, i2.below hb⟩
theorem WView.zero (w : World) (A : Option Addr) (fn : Nat → List Int × List Int) : WView w A 0 fn := fun _ hj => absurd hj (Nat.not_lt_zero _)
theorem WRow.view {w : World} {B G n : Nat} {fn : Nat → List Int × List Int} (h : WRow w B G n fn n) : WView w (some ⟨G, 0, none⟩) n fn := fun j hj => by
  obtain ⟨v1, v2, h1, h2, i1, i2⟩ := h.wds j hj
  obtain ⟨a1, c1, rfl, hi1, -, -⟩ := i1.shape
  obtain ⟨a2, c2, rfl, hi2, -, -⟩ := i2.shape
  exact ⟨G, a1, c1, a2, c2, rfl, h.lt, h1, h2, hi1, hi2⟩
theorem WOwn.view {w : World} {B n : Nat} {v : Value} {fn : Nat → List Int × List Int} (h : WOwn w B v n fn) : ∃ A c, v = .slice A n c ∧ WView w A n fn := by
  obtain ⟨xs, hrow, hwds⟩ := h
  rcases hrow.2 with ⟨e1, e2⟩ | ⟨g, cap, cur, e1, e2, e3, e4, e5, e6, e7⟩
  · subst e2
    exact ⟨none, 0, e1, WView.zero _ _ _⟩
  · refine ⟨some ⟨g, 0, none⟩, cap, e1, fun j hj => ?_⟩
    obtain ⟨v1, v2, x1, x2, i1, i2⟩ := hwds j hj
    obtain ⟨a1, c1, rfl, hi1, -, -⟩ := i1.shape
    obtain ⟨a2, c2, rfl, hi2, -, -⟩ := i2.shape
    have hl := hrow.1
    have hget : ∀ i u, xs[i]? = some u → cur[i]? = some u := fun i u hu => by
      have hi : i < n * 2 := by
        rcases Nat.lt_or_ge i (n * 2) with h | h
        · exact h
        · rw [List.getElem?_eq_none (by omega)] at hu; cases hu
      rw [← e7, List.getElem?_take_of_lt hi, Array.getElem?_toList] at hu
      exact hu
    refine ⟨g, a1, c1, a2, c2, rfl, heap_lt e3, ?_, ?_, hi1, hi2⟩
    · rw [cell_of_row w g (j * 2) cur _ (0, 0) e3]; exact hget _ _ x1
    · rw [cell_of_row w g (j * 2 + 1) cur _ (0, 0) e3]; exact hget _ _ x2
set_option maxRecDepth 100000 in
set_option maxHeartbeats 400000 in
/-- The same words. -/
theorem wordsSame_any (A B : Option Addr) (n c d : Nat) (fn : Nat → List Int × List Int) (w : World) (hA : WView w A n fn) (hB : WView w B n fn) (hn : n ≤ 1000) (hfn : ∀ j, j < n → (fn j).1.length ≤ maxLen ∧ (fn j).2.length ≤ maxLen) :
    Calls Tryz.prog 54 #[.slice A n c, .slice B n d] w fun e w' => e = .returned (.bool true) ∧ Drew w w' := by
  have HA := Lib.hid hA
  have HB := Lib.hid hB
  have hne : ((n : Int) != (n : Int)) = false := by simp
  clear hA hB
  go_enter Tryz.func54, Tryz.ntmps54
  go_wp2_with fail
  go_loopw [5] (fun v5 wr => ∃ k : Nat, k ≤ n ∧ v5 = .int .i64 k ∧ Drew w wr) (fun v5 _ => n - (intOf v5).toNat)
  case atStart => exact ⟨0, Nat.zero_le _, rfl, Drew.refl _⟩
  case round =>
    obtain ⟨k, hk, rfl, hD⟩ := hrel
    by_cases hlt : k < n
    · have hkl : (k : Int) < (n : Int) := by omega
      have hk0 : (0 : Int) ≤ (k : Int) := by omega
      obtain ⟨g, a1, c1, a2, c2, rfl, -, hx1, hx2, hi1, hi2⟩ := HA.out k hlt
      obtain ⟨g', b1, d1, b2, d2, rfl, -, hy1, hy2, hj1, hj2⟩ := HB.out k hlt
      obtain ⟨hl1, hl2⟩ := hfn k hlt
      have x1 := hD.cell hx1
      have x2 := hD.cell hx2
      have y1 := hD.cell hy1
      have y2 := hD.cell hy2
      obtain ⟨L1, hL1⟩ : ∃ L1, L1 = (fn k).1 := ⟨_, rfl⟩
      obtain ⟨L2, hL2⟩ : ∃ L2, L2 = (fn k).2 := ⟨_, rfl⟩
      rw [← hL1] at hx1 hy1 hi1 hj1 hl1 x1 y1
      rw [← hL2] at hx2 hy2 hi2 hj2 hl2 x2 y2
      have H1 : Hid (∀ m, Calls Tryz.prog 45 #[.slice a1 L1.length c1, .slice b1 L1.length d1] (wr.drewN m) fun e w'' => e = .returned (.bool true) ∧ ∃ m', w'' = wr.drewN m') := Lib.hid (fun m => (ints_good (d1 := c1) (d2 := d1) rfl rfl ((hD.drewN m).ints hi1) ((hD.drewN m).ints hj1) hl1 hl1 rfl).mono (fun e w' ⟨h1, q, h2⟩ => ⟨h1, m + q, by rw [h2, World.drewN_drewN]⟩))
      have H2 : Hid (∀ m, Calls Tryz.prog 45 #[.slice a2 L2.length c2, .slice b2 L2.length d2] (wr.drewN m) fun e w'' => e = .returned (.bool true) ∧ ∃ m', w'' = wr.drewN m') := Lib.hid (fun m => (ints_good (d1 := c2) (d2 := d2) rfl rfl ((hD.drewN m).ints hi2) ((hD.drewN m).ints hj2) hl2 hl2 rfl).mono (fun e w' ⟨h1, q, h2⟩ => ⟨h1, m + q, by rw [h2, World.drewN_drewN]⟩))
      clear hL1 hL2 hi1 hi2 hj1 hj2 hfn
      go_wp2_with fail
      go_quiet ((go_at_call 45; first | with_reducible exact H1.out _ | with_reducible exact H2.out _))
      go_wp2
      go_roundw
      case rel => exact ⟨k + 1, by omega, by go_num, hD.drewN _⟩
      case measure => simp [intOf]; omega
    · obtain rfl : k = n := by omega
      have hkl : ¬ (k : Int) < (k : Int) := by omega
      go_wp2
      go_ret
      exact ⟨rfl, hD⟩
end Go.Proofs.YtpoadjnhmdbdeaaGreatDoor

/-
  The walk of TextWords.
-/
namespace Go.Proofs.YtpoadjnhmdbdeaaGreatDoor
open Go.RowKit Go.Maps Go.Shelf

/-- What both Words answer. -/
def WAns (w : World) (E : Int) (n : Nat) (fn : Nat → List Int × List Int) (e : Ending) (w' : World) : Prop :=
  Below w.heap.size w w' ∧ ∃ A m c, e = .returned (.tuple #[.slice A m c, .int .i64 E]) ∧ WView w' A m fn ∧ m = (if E = 0 then n else 0)
theorem wordX_same {f : FT} {r r' : RU} (h : SameR r r') (s : ByteArray) : wordX f r' s = wordX f r s := by
  unfold wordX wordBr
  rw [wordSet_same h, ruleHyph_same h]
theorem wErrO_same {f : FT} {r r' : RU} (h : SameR r r') (s : ByteArray) : wErrO f r' s = wErrO f r s := by
  unfold wErrO
  rw [wordSet_same h]
theorem wordsE_same {f : FT} {r r' : RU} (h : SameR r r') (ws : List ByteArray) : wordsE f r' ws = wordsE f r ws := by
  have hb : badW f r' ws = badW f r ws := by funext j; unfold badW; rw [wErrO_same h]
  unfold wordsE
  rw [hb]
  simp only [wErrO_same h]
theorem wordsX_same {f : FT} {r r' : RU} (h : SameR r r') (ws : List ByteArray) : wordsX f r' ws = wordsX f r ws := by
  funext j
  unfold wordsX
  rw [wordX_same h]
theorem setErr_same {f : FT} {r r' : RU} (h : SameR r r') : setErr f r' = setErr f r := by unfold setErr; rw [checkR_same h]
theorem words_ans (f : FT) (a : Option Addr) (c : Nat) (r r' : RU) (b : Option Addr) (ws : List ByteArray) (d : Nat) (w : World) (hF : FAt w a f) (hR : r'.at_ w) (hSm : SameR r r') (hX : TextsAt w b ws) (hl : ws.length ≤ maxLen) (hS : ∀ k, k < ws.length → (ws.getD k noTx).size ≤ maxLen) :
    Calls Tryz.prog 50 #[.agg #[.string f.name, .int .i64 f.body, .slice a f.sorts.length c], .agg r'.cells, .slice b ws.length d] w (WAns w (if setErr f r ≠ 0 then setErr f r else wordsE f r ws) ws.length (wordsX f r ws)) := by
  have h := words_any f a c r' b ws d w hF hR hX hl hS
  rw [setErr_same hSm, wordsE_same hSm, wordsX_same hSm] at h
  refine h.mono ?_
  intro e w' hp
  obtain ⟨hb, hp⟩ := hp
  generalize (if setErr f r ≠ 0 then setErr f r else wordsE f r ws) = E at hp ⊢
  refine ⟨hb, ?_⟩
  by_cases h0 : E = 0
  · rw [if_pos h0] at hp ⊢
    subst h0
    obtain ⟨G, c9, rfl, hrow⟩ := hp
    exact ⟨_, _, _, rfl, hrow.view, rfl⟩
  · rw [if_neg h0] at hp ⊢
    subst hp
    exact ⟨_, _, _, rfl, WView.zero _ _ _, rfl⟩
theorem refWords_ans (f : FT) (a : Option Addr) (c : Nat) (r : RU) (b : Option Addr) (ws : List ByteArray) (d : Nat) (w : World) (hF : SortsAt w a f.sorts) (hR : r.at_ w) (hSm : RSmall r) (hcf : (checkF f).2 = 0) (hcr : (checkR r).2 = 0) (hX : TextsAt w b ws) (hl : ws.length ≤ maxLen) (hS : ∀ k, k < ws.length → (ws.getD k noTx).size ≤ 1000) :
    Calls Tryz.prog 53 #[.agg #[.string f.name, .int .i64 f.body, .slice a f.sorts.length c], .agg r.cells, .slice b ws.length d] w (WAns w (wordsE f r ws) ws.length (wordsX f r ws)) := by
  refine (refWords_any f a c r b ws d w hF hR hSm hcf hcr hX hl hS).mono ?_
  intro e w' hp
  obtain ⟨hb, hp⟩ := hp
  generalize wordsE f r ws = E at hp ⊢
  refine ⟨hb, ?_⟩
  by_cases h0 : E = 0
  · rw [if_pos h0] at hp ⊢
    subst h0
    obtain ⟨v, rfl, hown⟩ := hp
    obtain ⟨A, c9, rfl, hv⟩ := hown.view
    exact ⟨_, _, _, rfl, hv, rfl⟩
  · rw [if_neg h0] at hp ⊢
    subst hp
    exact ⟨_, _, _, rfl, WView.zero _ _ _, rfl⟩
theorem brTo_length (f : FT) (r : RU) (ws : List ByteArray) (j : Nat) (hs : (ws.getD j noTx).size ≤ 1000) : (wordsX f r ws j).1.length ≤ maxLen ∧ (wordsX f r ws j).2.length ≤ maxLen := by
  unfold wordsX wordX wordBr
  cases ho : wordSet f r (ws.getD j noTx) with
  | none => exact ⟨Nat.zero_le _, Nat.zero_le _⟩
  | some l =>
    have h1 := wordSet_len ho
    have h2 := brTo_len f (ruleHyph r (ws.getD j noTx)) l l.length
    dsimp only
    unfold maxLen
    omega
set_option maxRecDepth 100000 in
set_option maxHeartbeats 8000000 in
theorem words_walk (f : FT) (a : Option Addr) (c : Nat) (r : RU) (b : Option Addr) (ws : List ByteArray) (d : Nat) (w : World) (hF : FIn w f a c) (hR : r.at_ w) (hT : TabOk w) (hc : capR r) (hX : TextsAt w b ws) (hl : ws.length ≤ maxLen) (hS : SizesOk ws) (hd : b = none → d = 0) :
    Calls Tryz.prog 8 #[.agg #[.string f.name, .int .i64 f.body, .slice a f.sorts.length c], .agg r.cells, .slice b ws.length d] w fun e w' => e = .returned (.bool true) ∧ Below w.heap.size w w' := by
  have hK0 := frk_start w f a c r
  have HF := Lib.hid (fun W (h : FRK w f a c r W) => hF.below h.low)
  have HR := Lib.hid (fun W (h : FRK w f a c r W) => hR.below h.low)
  have HX := Lib.hid (fun W (h : FRK w f a c r W) => hX.below h.low)
  have HT := Lib.hid (fun W (h : FRK w f a c r W) => hT.below h.low hT.1)
  have hz : SizesOk r.ps.l ∧ SizesOk r.es.l ∧ SizesOk r.bs.l := ⟨hR.1.2.2, hR.2.1.2.2, hR.2.2.2.2⟩
  have HSR := Lib.hid (fun W (h : r.at_ W) => Short_any r W h)
  have HCP0 := Lib.hid (fun W (h : r.at_ W) h1 h2 h3 => copyRules_any r W h hc h1 h2 h3)
  have HSH := Lib.hid (fun W (h : TextsAt W b ws) => short_any b ws d 8 100 W h hl (by omega) (by omega))
  have hcap := hF.nil
  have HCX0 := Lib.hid (fun W (h : TextsAt W b ws) h1 => copyTexts_any b ws d W h h1 hd)
  unfold RU.cells at *
  clear hF hR hT hc hX
  go_enter Tryz.func8, Tryz.ntmps8
  go_wp2_with fail
  refine (awake_any _ (HT.out _ hK0)).mono ?_
  rintro e w2 ⟨rfl, hb2⟩
  have hK2 := hK0.below hb2
  clear hK0 hb2
  obtain ⟨c0, c1, c2⟩ := hK2.fc
  go_wp2_with fail
  refine (few2_any f a c _ (HF.out _ hK2).at_.ok (HF.out _ hK2).at_.at_).mono ?_
  rintro e w3 ⟨rfl, hb3⟩
  have hK3 := hK2.below hb3
  clear hK2 hb3 c0 c1 c2
  cases hfew : few2B f
  · have hlow := hK3.low
    go_wp2
    go_ret
    exact ⟨rfl, hlow⟩
  obtain ⟨d0, d1, d2, d3, d4⟩ := hK3.rc
  go_wp2_with fail
  refine (HSR.out _ (HR.out _ hK3)).mono ?_
  rintro e w4 ⟨rfl, hb4⟩
  have hK4 := hK3.below hb4
  clear hK3 hb4 d0 d1 d2 d3 d4
  cases hsh : shortR r
  · have hlow := hK4.low
    go_wp2
    go_ret
    exact ⟨rfl, hlow⟩
  go_wp2_with fail
  refine (HSH.out _ (HX.out _ hK4)).mono ?_
  rintro e w4' ⟨rfl, rfl⟩
  cases hsw : shortB ws 8 100
  · have hlow := hK4.low
    go_wp2
    go_ret
    exact ⟨rfl, hlow⟩
  obtain ⟨hSm, hl1, hl2, hl3⟩ := small_short hsh
  obtain ⟨hwl, hws⟩ := short_small hsw
  have hn122 := few2_len hfew
  have hl : r.ps.l.length ≤ 1000 ∧ r.es.l.length ≤ 1000 ∧ r.bs.l.length ≤ 1000 := ⟨by omega, by omega, by omega⟩
  have HCP := Lib.hid (fun W (h : r.at_ W) => HCP0.out W h hl.1 hl.2.1 hl.2.2)
  have HCX := Lib.hid (fun W (h : TextsAt W b ws) => HCX0.out W h (by omega))
  have HCF := Lib.hid (fun W (h : FRK w f a c r W) => copyFount_any f a c W (HF.out W h).at_ (by omega) hcap)
  have HFE := Lib.hid (fun W (h : FRK w f a c r W) => refFountErr_any f a c W (HF.out W h))
  have HRE := Lib.hid (fun W (h : FRK w f a c r W) => refErr_any r W (HR.out W h) hSm.1 hSm.2.1 hSm.2.2)
  have HAT := Lib.hid (fun W (r2 : RU) (h1 : SameR r r2) B (h2 : OwnR W B r2) => own_at h1 h2 hz hl)
  have HWO := Lib.hid (fun W (r2 : RU) (g k g2 k2 : Nat) (h1 : FAt W (some ⟨g, 0, none⟩) f) (h2 : r2.at_ W) (h3 : SameR r r2) (h4 : TextsAt W (some ⟨g2, 0, none⟩) ws) => words_ans f (some ⟨g, 0, none⟩) k r r2 (some ⟨g2, 0, none⟩) ws k2 W h1 h2 h3 h4 (by unfold maxLen; omega) hS)
  have HRW := Lib.hid (fun W (h : FRK w f a c r W) hf he => refWords_ans f a c r b ws d W (HF.out W h).at_.at_ (HR.out W h) hSm hf he (HX.out W h) (by unfold maxLen; omega) hws)
  have HLN := Lib.hid (fun j (hj : j < ws.length) => brTo_length f r ws j (hws j hj))
  obtain ⟨fn, hfn⟩ : ∃ fn, fn = wordsX f r ws := ⟨_, rfl⟩
  obtain ⟨FE, hFE⟩ : ∃ FE, FE = (checkF f).2 := ⟨_, rfl⟩
  obtain ⟨RE, hRE⟩ : ∃ RE, RE = (checkR r).2 := ⟨_, rfl⟩
  obtain ⟨WE, hWE⟩ : ∃ WE, WE = wordsE f r ws := ⟨_, rfl⟩
  obtain ⟨E, hE⟩ : ∃ E, E = if FE ≠ 0 then FE else if RE ≠ 0 then RE else WE := ⟨_, rfl⟩
  have hE2 : (if setErr f r ≠ 0 then setErr f r else wordsE f r ws) = E := by
    rw [hE, hFE, hRE, hWE]
    unfold setErr
    by_cases h1 : (checkF f).2 = 0
    · simp [h1]
    · simp [h1]
  rw [hE2, ← hfn] at HWO
  rw [← hfn, ← hFE, ← hRE, ← hWE] at HRW
  rw [← hFE] at HFE
  rw [← hRE] at HRE
  rw [← hfn] at HLN
  have HE := Lib.hid hE
  clear hE hE2 hFE hRE hWE hfn hsh hfew hsw HSR HCP0 HCX0 HSH hz HT
  unfold RU.cells at HCP HRE HWO HRW
  obtain ⟨c0, c1, c2⟩ := hK4.fc
  obtain ⟨d0, d1, d2, d3, d4⟩ := hK4.rc
  have hlt4 := hK4.lt
  have hlt4a : w.heap.size < w4.heap.size := by omega
  go_wp2_with fail
  go_region_held3 (fun w' => w'.cell? ⟨w.heap.size, 0, none⟩ = some (.string f.name) ∧ w'.cell? ⟨w.heap.size, 1, none⟩ = some (.int .i64 f.body) ∧ w'.cell? ⟨w.heap.size, 2, none⟩ = some (.slice a f.sorts.length c) ∧ w'.cell? ⟨w.heap.size + 1, 0, none⟩ = some (.slice r.ps.a r.ps.l.length r.ps.c) ∧ w'.cell? ⟨w.heap.size + 1, 1, none⟩ = some (.slice r.es.a r.es.l.length r.es.c) ∧ w'.cell? ⟨w.heap.size + 1, 2, none⟩ = some (.slice r.bs.a r.bs.l.length r.bs.c) ∧ w'.cell? ⟨w.heap.size + 1, 3, none⟩ = some (.int .i64 r.left) ∧ w'.cell? ⟨w.heap.size + 1, 4, none⟩ = some (.int .i64 r.right)) (go_keep)
    (first
     | (go_at_call 38; refine (HCF.out _ (by first | exact hK4 | exact ⟨hK4.fb, hK4.rb, hK4.low.drew⟩)).mono ?_; rintro e w7 ⟨g7, cp7, rfl, hk7, hF7, hb7d⟩; have hb7 : Below w4.heap.size w4 w7 := (Below.refl _ _).drew.trans hb7d; have k0 := (hb7.cell (p := ⟨w.heap.size, 0, none⟩) hlt4a).trans c0; have k1 := (hb7.cell (p := ⟨w.heap.size, 1, none⟩) hlt4a).trans c1; have k2 := (hb7.cell (p := ⟨w.heap.size, 2, none⟩) hlt4a).trans c2; have k3 := (hb7.cell (p := ⟨w.heap.size + 1, 0, none⟩) hlt4).trans d0; have k4 := (hb7.cell (p := ⟨w.heap.size + 1, 1, none⟩) hlt4).trans d1; have k5 := (hb7.cell (p := ⟨w.heap.size + 1, 2, none⟩) hlt4).trans d2; have k6 := (hb7.cell (p := ⟨w.heap.size + 1, 3, none⟩) hlt4).trans d3; have k7 := (hb7.cell (p := ⟨w.heap.size + 1, 4, none⟩) hlt4).trans d4)
     | (go_at_call 20; refine (HCP.out _ (HR.out _ (hK4.below hb7))).mono ?_; rintro e w8 ⟨r8, rfl, hS8, hO8, hb8⟩; have hb87 : Below w4.heap.size w4 w8 := hb7.trans (hb8.mono hb7.size); have k0 := (hb87.cell (p := ⟨w.heap.size, 0, none⟩) hlt4a).trans c0; have k1 := (hb87.cell (p := ⟨w.heap.size, 1, none⟩) hlt4a).trans c1; have k2 := (hb87.cell (p := ⟨w.heap.size, 2, none⟩) hlt4a).trans c2; have k3 := (hb87.cell (p := ⟨w.heap.size + 1, 0, none⟩) hlt4).trans d0; have k4 := (hb87.cell (p := ⟨w.heap.size + 1, 1, none⟩) hlt4).trans d1; have k5 := (hb87.cell (p := ⟨w.heap.size + 1, 2, none⟩) hlt4).trans d2; have k6 := (hb87.cell (p := ⟨w.heap.size + 1, 3, none⟩) hlt4).trans d3; have k7 := (hb87.cell (p := ⟨w.heap.size + 1, 4, none⟩) hlt4).trans d4)
     | (go_at_call 51; refine (HCX.out _ (HX.out _ (hK4.below hb87))).mono ?_; rintro e w9 ⟨g9, cp9, rfl, ho9, hb9d⟩; have hX9 := texts_own ho9 rfl rfl; have hb9 : Below w4.heap.size w4 w9 := hb87.trans (hb9d.mono hb87.size); have k0 := (hb9.cell (p := ⟨w.heap.size, 0, none⟩) hlt4a).trans c0; have k1 := (hb9.cell (p := ⟨w.heap.size, 1, none⟩) hlt4a).trans c1; have k2 := (hb9.cell (p := ⟨w.heap.size, 2, none⟩) hlt4a).trans c2; have k3 := (hb9.cell (p := ⟨w.heap.size + 1, 0, none⟩) hlt4).trans d0; have k4 := (hb9.cell (p := ⟨w.heap.size + 1, 1, none⟩) hlt4).trans d1; have k5 := (hb9.cell (p := ⟨w.heap.size + 1, 2, none⟩) hlt4).trans d2; have k6 := (hb9.cell (p := ⟨w.heap.size + 1, 3, none⟩) hlt4).trans d3; have k7 := (hb9.cell (p := ⟨w.heap.size + 1, 4, none⟩) hlt4).trans d4)
     | (go_at_call 50; refine (HWO.out _ r8 g7 cp7 g9 cp9 ((hF7.below hb8).below hb9d) ((HAT.out _ _ hS8 _ hO8).below hb9d) hS8 hX9).mono ?_; rintro e wA ⟨hbAd, A1, m1, cA, rfl, hV1, hm1⟩; replace hm1 := Lib.hid hm1; replace hV1 := Lib.hid hV1; have hbA : Below w4.heap.size w4 wA := hb9.trans (hbAd.mono hb9.size); have k0 := (hbA.cell (p := ⟨w.heap.size, 0, none⟩) hlt4a).trans c0; have k1 := (hbA.cell (p := ⟨w.heap.size, 1, none⟩) hlt4a).trans c1; have k2 := (hbA.cell (p := ⟨w.heap.size, 2, none⟩) hlt4a).trans c2; have k3 := (hbA.cell (p := ⟨w.heap.size + 1, 0, none⟩) hlt4).trans d0; have k4 := (hbA.cell (p := ⟨w.heap.size + 1, 1, none⟩) hlt4).trans d1; have k5 := (hbA.cell (p := ⟨w.heap.size + 1, 2, none⟩) hlt4).trans d2; have k6 := (hbA.cell (p := ⟨w.heap.size + 1, 3, none⟩) hlt4).trans d3; have k7 := (hbA.cell (p := ⟨w.heap.size + 1, 4, none⟩) hlt4).trans d4))
  have hKA := hK4.below hbA
  clear c0 c1 c2 d0 d1 d2 d3 d4 hK4 hbA hlt4 hlt4a hb7 hb8 hb87 hb9 hF7 hO8 hS8 hX9 ho9 hbAd hb7d hb9d
  obtain ⟨c0, c1, c2⟩ := hKA.fc
  go_wp2_with fail
  refine (HFE.out _ hKA).mono ?_
  rintro e w10 ⟨rfl, hb10⟩
  have hK10 := hKA.below hb10
  have hV10 := hV1.out.below hb10
  clear c0 c1 c2 hKA hb10 hV1
  by_cases hf0 : FE = 0
  · have hfb : (FE == 0) = true := by rw [hf0]; try rfl
    obtain ⟨d0, d1, d2, d3, d4⟩ := hK10.rc
    go_wp2_with fail
    refine (HRE.out _ hK10).mono ?_
    rintro e w11 ⟨rfl, hb11⟩
    have hK11 := hK10.below hb11
    have hV11 := hV10.below hb11
    clear d0 d1 d2 d3 d4 hK10 hb11 hV10
    by_cases hr0 : RE = 0
    · have hrb : (RE == 0) = true := by rw [hr0]; try rfl
      have hEW : E = WE := by rw [HE.out, if_neg (fun h => h hf0), if_neg (fun h => h hr0)]
      subst hEW
      obtain ⟨c0, c1, c2⟩ := hK11.fc
      obtain ⟨d0, d1, d2, d3, d4⟩ := hK11.rc
      have HRX := Lib.hid (HRW.out _ hK11 hf0 hr0)
      go_wp2_with fail
      refine HRX.out.mono ?_
      rintro e w12 ⟨hb12, A2, m2, cB, rfl, hV2, hm2⟩
      have hK12 := hK11.below hb12
      have hV12 := hV11.below hb12
      obtain rfl : m2 = m1 := hm2.trans hm1.out.symm
      have hL2 : m2 ≤ ws.length := by
        rw [hm2]; by_cases h : E = 0
        · rw [if_pos h]; exact Nat.le_refl _
        · rw [if_neg h]; exact Nat.zero_le _
      have HSA := Lib.hid (wordsSame_any A1 A2 m2 cA cB fn w12 hV12 hV2 (by omega) (fun j hj => HLN.out j (by omega)))
      have hlow := hK12.low
      clear c0 c1 c2 d0 d1 d2 d3 d4 hK11 hb12 hV11 hV12 hV2 hm2 hm1
      go_wp2_with fail
      refine HSA.out.mono ?_
      rintro e w13 ⟨rfl, hD13⟩
      have hlow2 := hlow.trans ((hD13.below (Below.refl _ _)).mono hlow.size)
      clear hD13
      go_wp2
      go_ret
      exact ⟨rfl, hlow2⟩
    · have hrb : (RE == 0) = false := by simpa using hr0
      have hEW : E = RE := by rw [HE.out, if_neg (fun h => h hf0), if_pos hr0]
      subst hEW
      obtain rfl : m1 = 0 := by rw [hm1.out, if_neg hr0]
      have HSA := Lib.hid (wordsSame_any A1 none 0 cA 0 fn w11 hV11 (WView.zero _ _ _) (by omega) (fun j hj => absurd hj (Nat.not_lt_zero _)))
      have hlow := hK11.low
      clear hV11 hm1
      go_wp2_with fail
      refine HSA.out.mono ?_
      rintro e w13 ⟨rfl, hD13⟩
      have hlow2 := hlow.trans ((hD13.below (Below.refl _ _)).mono hlow.size)
      clear hD13
      go_wp2
      go_ret
      exact ⟨rfl, hlow2⟩
  · have hfb : (FE == 0) = false := by simpa using hf0
    have hEW : E = FE := by rw [HE.out, if_pos hf0]
    subst hEW
    obtain rfl : m1 = 0 := by rw [hm1.out, if_neg hf0]
    have HSA := Lib.hid (wordsSame_any A1 none 0 cA 0 fn w10 hV10 (WView.zero _ _ _) (by omega) (fun j hj => absurd hj (Nat.not_lt_zero _)))
    have hlow := hK10.low
    clear hV10 hm1
    go_wp2_with fail
    refine HSA.out.mono ?_
    rintro e w13 ⟨rfl, hD13⟩
    have hlow2 := hlow.trans ((hD13.below (Below.refl _ _)).mono hlow.size)
    clear hD13
    go_wp2
    go_ret
    exact ⟨rfl, hlow2⟩
end Go.Proofs.YtpoadjnhmdbdeaaGreatDoor
