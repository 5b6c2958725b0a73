/-
  A style's reading of texts: the map of words to the places of their marks.
-/
import Derived.Test.YtomblajlpanmjaaGreatDoorVX
namespace Go.Proofs.YtomblajlpanmjaaGreatDoor
open Go.RowKit Go.Maps

def entO (y : Sty) (t : ByteArray) : Option (List UInt8 × List Int) := match cutAt y.m t.data.toList with
  | none => none
  | some x => if y.R ⟨x.1.toArray⟩ x.2 = true then some x else none
def entG (y : Sty) (l : List ByteArray) (j : Nat) : List UInt8 × List Int := (entO y (l.getD j noTx)).getD ([], [])
def entsN (y : Sty) (l : List ByteArray) (k : Nat) : List (List UInt8 × List Int) := (List.range k).map (entG y l)
theorem entsN_succ (y : Sty) (l : List ByteArray) (k : Nat) : entsN y l (k + 1) = entsN y l k ++ [entG y l k] := by simp [entsN, List.range_succ]
theorem entsN_len (y : Sty) (l : List ByteArray) (k : Nat) : (entsN y l k).length = k := by simp [entsN]
def hasE (E : List (List UInt8 × List Int)) (key : List UInt8) : Bool := E.any fun p => decide (p.1 = key)
def lookE (E : List (List UInt8 × List Int)) (key : List UInt8) : List Int := E.foldl (fun acc p => if p.1 = key then p.2 else acc) []
def badF (y : Sty) (l : List ByteArray) (j : Nat) : Bool := (entO y (l.getD j noTx)).isNone
def badA (y : Sty) (l : List ByteArray) (j : Nat) : Bool := hasE (entsN y l j) (entG y l j).1
def badE (y : Sty) (l : List ByteArray) (j : Nat) : Bool := badF y l j || badA y l j
def checkE (y : Sty) (l : List ByteArray) : Int × Int :=
  if 40 < l.length then (0, 8) else match firstAt (badE y l) (l.length - 0) 0 with
    | none => (0, 0)
    | some i => ((i : Int), if badF y l i = true then 3 else 5)
/-- What a map's entries are, as numbers in memory. -/
def Ents (w : World) (base : Nat) : List (List UInt8 × Value) → List (List UInt8 × List Int) → Prop
  | [], [] => True
  | p :: M, q :: E => p.1 = q.1 ∧ (∃ (a : Option Addr) (c : Nat), p.2 = .slice a q.2.length c ∧ IntsAt w a q.2 ∧ q.2.length ≤ c ∧ (a = none → c = 0) ∧ ∀ ad, a = some ad → base ≤ ad.block) ∧ Ents w base M E
  | _, _ => False
theorem Ents.len {w : World} {base : Nat} : ∀ {M : List (List UInt8 × Value)} {E : List (List UInt8 × List Int)}, Ents w base M E → M.length = E.length
  | [], [], _ => rfl
  | _ :: _, _ :: _, h => by rw [List.length_cons, List.length_cons, Ents.len h.2.2]
theorem Ents.map {w w' : World} {base : Nat} (hi : ∀ a l, (∀ ad, a = some ad → base ≤ ad.block) → IntsAt w a l → IntsAt w' a l) : ∀ {M : List (List UInt8 × Value)} {E : List (List UInt8 × List Int)}, Ents w base M E → Ents w' base M E
  | [], [], _ => trivial
  | _ :: _, _ :: _, ⟨h1, ⟨a, c, e, hI, h2, h3, h5⟩, h4⟩ => ⟨h1, ⟨a, c, e, hi _ _ h5 hI, h2, h3, h5⟩, Ents.map hi h4⟩
theorem Ents.below {w w' : World} {base : Nat} {M : List (List UInt8 × Value)} {E : List (List UInt8 × List Int)} (h : Ents w base M E) (hb : Below w.heap.size w w') : Ents w' base M E := h.map fun _ _ _ hI => hI.below hb
theorem Ents.set {w : World} {base : Nat} {M : List (List UInt8 × Value)} {E : List (List UInt8 × List Int)} (h : Ents w base M E) {p : Addr} (hp : p.block < base) (u : Value) : Ents (w.setCell p u) base M E := h.map fun a l hA hI k hk => by
  obtain ⟨ad, e, hlt, hc⟩ := hI k hk
  have hb := hA ad e
  exact ⟨ad, e, by simpa [World.setCell] using hlt, (World.cell?_setCell_other _ _ _ _ (fun e2 => by have := congrArg Addr.block e2; rw [add_block] at this; omega)).trans hc⟩
theorem Ents.mono {w : World} {B base : Nat} (hB : B ≤ base) : ∀ {M : List (List UInt8 × Value)} {E : List (List UInt8 × List Int)}, Ents w base M E → Ents w B M E
  | [], [], _ => trivial
  | _ :: _, _ :: _, ⟨h1, ⟨a, c, e, hI, h2, h3, h5⟩, h4⟩ => ⟨h1, ⟨a, c, e, hI, h2, h3, fun ad e => Nat.le_trans hB (h5 ad e)⟩, Ents.mono hB h4⟩
theorem cell_of_map {w : World} {ad : Addr} {es : Array MapEntry} {clock : Nat} (h : w.heap[ad.block]? = some (.map es clock)) : w.cell? ad = none := by
  simp [World.cell?, h]
theorem ints_grown {P : Program} {k : TypeId} {w w' : World} {b : Nat} {M : List (List UInt8 × Value)} (hm : MapAt P k w b M) (hg : w.grownBy w' (some b)) {a : Option Addr} {l : List Int} (h : IntsAt w a l) : IntsAt w' a l := fun j hj => by
  obtain ⟨ad, e, hlt, hc⟩ := h j hj
  obtain ⟨es, clock, hh, _⟩ := hm
  have hne : (ad.add j).block ≠ b := fun e2 => by
    rw [← e2] at hh
    have : w.cell? (ad.add j) = none := cell_of_map hh
    rw [this] at hc; cases hc
  exact ⟨ad, e, Nat.lt_of_lt_of_le hlt hg.size, (hg.cell_far _ (by rw [add_block]; exact hlt) (fun e2 => hne (by injection e2))).trans hc⟩
theorem Ents.snoc {w : World} {base : Nat} {p : List UInt8 × Value} {q : List UInt8 × List Int} (h1 : p.1 = q.1) (h2 : ∃ (a : Option Addr) (c : Nat), p.2 = .slice a q.2.length c ∧ IntsAt w a q.2 ∧ q.2.length ≤ c ∧ (a = none → c = 0) ∧ ∀ ad, a = some ad → base ≤ ad.block) : ∀ {M : List (List UInt8 × Value)} {E : List (List UInt8 × List Int)}, Ents w base M E → Ents w base (M ++ [p]) (E ++ [q])
  | [], [], _ => ⟨h1, h2, trivial⟩
  | _ :: _, _ :: _, ⟨a1, a2, a3⟩ => ⟨a1, a2, Ents.snoc h1 h2 a3⟩
theorem Ents.has {w : World} {base : Nat} (key : List UInt8) : ∀ {M : List (List UInt8 × Value)} {E : List (List UInt8 × List Int)}, Ents w base M E → mapHas M key = hasE E key
  | [], [], _ => rfl
  | p :: M, q :: E, ⟨a1, _, a3⟩ => by
    have ih := Ents.has key a3
    unfold mapHas hasE at ih ⊢
    rw [List.any_cons, List.any_cons, ih, a1]
theorem Ents.get {w : World} {base : Nat} (key : List UInt8) : ∀ {M : List (List UInt8 × Value)} {E : List (List UInt8 × List Int)} {z : Value} {l : List Int}, Ents w base M E → (∃ (a : Option Addr) (c : Nat), z = .slice a l.length c ∧ IntsAt w a l ∧ l.length ≤ c ∧ (a = none → c = 0)) →
    ∃ (a : Option Addr) (c : Nat), M.foldl (getE key) z = .slice a (E.foldl (fun acc p => if p.1 = key then p.2 else acc) l).length c ∧ IntsAt w a (E.foldl (fun acc p => if p.1 = key then p.2 else acc) l) ∧ (E.foldl (fun acc p => if p.1 = key then p.2 else acc) l).length ≤ c ∧ (a = none → c = 0)
  | [], [], _, _, _, hz => hz
  | p :: M, q :: E, z, l, ⟨a1, a2, a3⟩, hz => by
    rw [List.foldl_cons, List.foldl_cons]
    refine Ents.get key a3 ?_
    unfold getE
    rw [a1]
    by_cases e : q.1 = key
    · rw [if_pos e, if_pos e]; obtain ⟨a, c, b1, b2, b3, b4, _⟩ := a2; exact ⟨a, c, b1, b2, b3, b4⟩
    · rw [if_neg e, if_neg e]; exact hz
/-- What stands in the map at a word: its places, or none. -/
theorem Ents.look {w : World} {base : Nat} {M : List (List UInt8 × Value)} {E : List (List UInt8 × List Int)} (h : Ents w base M E) (key : List UInt8) :
    ∃ (a : Option Addr) (c : Nat), mapGet M key (.slice none 0 0) = .slice a (lookE E key).length c ∧ IntsAt w a (lookE E key) ∧ (lookE E key).length ≤ c ∧ (a = none → c = 0) :=
  Ents.get key h ⟨none, 0, rfl, fun _ hk => absurd hk (Nat.not_lt_zero _), Nat.le_refl _, fun _ => rfl⟩
/-- Block b is a map of these words to these places. -/
def MarkMap (w : World) (base b : Nat) (E : List (List UInt8 × List Int)) : Prop := base ≤ b ∧ ∃ M, MapAt Tryz.prog 9 w b M ∧ Ents w base M E
section
variable {w w' : World} {B base b : Nat} {E : List (List UInt8 × List Int)}
theorem MarkMap.below (h : MarkMap w base b E) (hb : Below w.heap.size w w') : MarkMap w' base b E := by
  obtain ⟨h0, M, h1, h2⟩ := h; exact ⟨h0, M, h1.below hb, h2.below hb⟩
theorem MarkMap.lt (h : MarkMap w base b E) : b < w.heap.size := by
  obtain ⟨_, M, h1, _⟩ := h; exact h1.lt
theorem MarkMap.set (h : MarkMap w base b E) {p : Addr} (hp : p.block < base) (u : Value) : MarkMap (w.setCell p u) base b E := by
  obtain ⟨h0, M, h1, h2⟩ := h; exact ⟨h0, M, h1.setCell (by omega) u, h2.set hp u⟩
theorem MarkMap.mono (h : MarkMap w base b E) (hB : B ≤ base) : MarkMap w B b E := by
  obtain ⟨h0, M, h1, h2⟩ := h; exact ⟨Nat.le_trans hB h0, M, h1, h2.mono hB⟩
end
theorem zeroInts (w : World) : (zeroValue 63).run Tryz.prog w = .ok (.slice none 0 0) w := by kernel_rfl
def ReadPost (w : World) (y : Sty) (l : List ByteArray) (e : Ending) (w' : World) : Prop :=
  Below w.heap.size w w' ∧ if (checkE y l).2 = 0 then ∃ b, e = .returned (.tuple #[.map (some b), .int .i64 0, .int .i64 0]) ∧ MarkMap w' w.heap.size b (entsN y l l.length)
    else e = .returned (.tuple #[.map none, .int .i64 (checkE y l).1, .int .i64 (checkE y l).2])

set_option maxRecDepth 100000 in
set_option maxHeartbeats 400000 in
theorem read_any (y : Sty) (hy : y.Ok) (hf : y.fn = 135 ∨ y.fn = 139) (b : Option Addr) (l : List ByteArray) (d : Nat) (w : World) (hX : TextsAt w b l) (hl : l.length ≤ maxLen) :
    Calls Tryz.prog 98 #[y.val, .slice b l.length d] w (ReadPost w y l) := by
  have hl' : l.length ≤ 9223372036854775807 := by unfold maxLen at hl; omega
  have hBx := (Below.refl w.heap.size w).alloc (Nat.le_refl _) (.cells #[.string ⟨#[y.m]⟩, .func (.func y.fn) #[] #[]] 185)
  by_cases h1 : 40 < l.length
  · have HE := Lib.hid (show checkE y l = (0, 8) by unfold checkE; rw [if_pos h1])
    unfold Sty.val
    go_enter Tryz.func98, Tryz.ntmps98
    go_wp2
    all_goals first | (exfalso; omega) | skip
    all_goals go_ret3
    all_goals exact ⟨hBx, by rw [HE.out]; exact rfl⟩
  have h2 : l.length ≤ 40 := by omega
  have HE := Lib.hid (show checkE y l = (match firstAt (badE y l) (l.length - 0) 0 with
    | none => (0, 0)
    | some i => ((i : Int), if badF y l i = true then 3 else 5)) by unfold checkE; rw [if_neg h1])
  clear h1
  have hmm := @run_makeMap Tryz.prog
  have hM0 := MapAt.made (w.alloc (.cells #[.string ⟨#[y.m]⟩, .func (.func y.fn) #[] #[]] 185)) Tryz.prog 9
  have hw1 : (w.alloc (.cells #[.string ⟨#[y.m]⟩, .func (.func y.fn) #[] #[]] 185)).heap.size = w.heap.size + 1 := by simp
  rw [hw1] at hM0
  have hBm := (Below.refl (w.heap.size + 1) (w.alloc (.cells #[.string ⟨#[y.m]⟩, .func (.func y.fn) #[] #[]] 185))).alloc (by simp) (.map #[] 0)
  have k0 : (w.alloc (.cells #[.string ⟨#[y.m]⟩, .func (.func y.fn) #[] #[]] 185)).cell? ⟨w.heap.size, 0, none⟩ = some (.string ⟨#[y.m]⟩) := by rw [cell_of_row _ w.heap.size 0 _ _ (0, 0) (heap_alloc_new w _)]; rfl
  have k1 : (w.alloc (.cells #[.string ⟨#[y.m]⟩, .func (.func y.fn) #[] #[]] 185)).cell? ⟨w.heap.size, 1, none⟩ = some (.func (.func y.fn) #[] #[]) := by rw [cell_of_row _ w.heap.size 1 _ _ (0, 0) (heap_alloc_new w _)]; rfl
  have HS := Lib.hid (split_any y hy hf)
  unfold Sty.val at HS ⊢
  clear hw1
  go_enter Tryz.func98, Tryz.ntmps98
  go_wp2
  clear hmm
  generalize hW1 : w.alloc (.cells #[.string ⟨#[y.m]⟩, .func (.func y.fn) #[] #[]] 185) = W1 at *
  go_loopw [21] (fun i wr => ∃ (k : Nat) (M : List (List UInt8 × Value)), k ≤ l.length ∧ i = .int .i64 k ∧ Hid (firstAt (badE y l) (l.length - 0) 0 = firstAt (badE y l) (l.length - k) k) ∧ Below (w.heap.size + 1) W1 wr ∧ MapAt Tryz.prog 9 wr (w.heap.size + 1) M ∧ Ents wr (w.heap.size + 1) M (entsN y l k)) (fun i _ => l.length - (intOf i).toNat)
  case atStart => exact ⟨0, [], Nat.zero_le _, rfl, Lib.hid rfl, hBm, hM0, trivial⟩
  case round =>
    obtain ⟨k, M, hk, rfl, HR, hB, hM, hE⟩ := hrel
    clear hM0 hBm
    have hBw := hBx.trans (hB.mono (Nat.le_succ _))
    have r0 := (hB.cell (p := ⟨w.heap.size, 0, none⟩) (by simp)).trans k0
    have r1 := (hB.cell (p := ⟨w.heap.size, 1, none⟩) (by simp)).trans k1
    have hMlt := hM.lt
    by_cases hlt : k < l.length
    · obtain ⟨p1, rfl, hp1, hc1⟩ := (hX.below hBw).at_ hlt
      have hkl : (k : Int) < (l.length : Int) := by omega
      have hEG : entG y l k = (entO y (l.getD k noTx)).getD ([], []) := rfl
      have hBF : badF y l k = (entO y (l.getD k noTx)).isNone := rfl
      have hBE : badE y l k = (badF y l k || badA y l k) := rfl
      have hBA : badA y l k = hasE (entsN y l k) (entG y l k).1 := rfl
      generalize l.getD k noTx = s at hc1 hEG hBF
      have hspl := HS.out s wr
      cases hcut : cutAt y.m s.data.toList with
      | none =>
        have hO : entO y s = none := by unfold entO; rw [hcut]
        rw [hO] at hBF
        have HF := Lib.hid (show badF y l k = true from hBF)
        have HST := Lib.hid (firstAt_stop (q := badE y l) hlt (by rw [hBE, HF.out]; rfl))
        rw [hcut] at hspl
        have HSPL := Lib.hid hspl
        clear hEG hBF hBE hBA hspl hcut hO
        go_wp2_with fail
        refine HSPL.out.mono ?_
        rintro e w2 ⟨hb2, rfl⟩
        go_wp2
        go_ret3
        have HK : checkE y l = ((k : Int), 3) := by rw [HE.out, HR.out, HST.out]; show ((k : Int), if badF y l k = true then 3 else 5) = _; rw [if_pos HF.out]
        exact ⟨hBw.trans (hb2.mono hBw.size), by rw [HK]; exact rfl⟩
      | some x =>
        rw [hcut] at hspl
        have HSPL := Lib.hid hspl
        cases hr : y.R ⟨x.1.toArray⟩ x.2
        · have hO : entO y s = none := by unfold entO; rw [hcut]; show (if y.R ⟨x.1.toArray⟩ x.2 = true then some x else none) = none; rw [hr]; rfl
          rw [hO] at hBF
          have HF := Lib.hid (show badF y l k = true from hBF)
          have HST := Lib.hid (firstAt_stop (q := badE y l) hlt (by rw [hBE, HF.out]; rfl))
          have HRR := Lib.hid hr
          clear hEG hBF hBE hBA hspl hcut hO hr
          go_wp2_with fail
          refine HSPL.out.mono ?_
          rintro e w2 ⟨hb2, ⟨ws, v, rfl, hws, hrow⟩⟩
          have hRs : y.R ws x.2 = false := by rw [← HRR.out]; congr 1; rw [← hws]
          rw [hRs]
          clear hRs
          go_wp2
          go_ret3
          have HK : checkE y l = ((k : Int), 3) := by rw [HE.out, HR.out, HST.out]; show ((k : Int), if badF y l k = true then 3 else 5) = _; rw [if_pos HF.out]
          exact ⟨hBw.trans (hb2.mono hBw.size), by rw [HK]; exact rfl⟩
        · have hO : entO y s = some x := by unfold entO; rw [hcut]; show (if y.R ⟨x.1.toArray⟩ x.2 = true then some x else none) = some x; rw [hr]; rfl
          rw [hO] at hBF hEG
          have hF : badF y l k = false := hBF
          have hG : entG y l k = x := hEG
          rw [hG] at hBA
          have hxs : x.1.length ≤ 59 := by
            have h1 := len_b s
            unfold cutAt at hcut
            by_cases c1 : 59 < s.data.toList.length
            · rw [if_pos c1] at hcut; cases hcut
            · rw [if_neg c1] at hcut
              by_cases c2 : (splitOn y.m s.data.toList).any List.isEmpty = true
              · rw [if_pos c2] at hcut; cases hcut
              · rw [if_neg c2] at hcut
                injection hcut with hcut
                rw [← hcut]
                have := splitOn_len y.m s.data.toList
                have := splitOn_ne y.m s.data.toList
                have : 0 < (splitOn y.m s.data.toList).length := List.length_pos_iff.2 this
                show (splitOn y.m s.data.toList).flatten.length ≤ 59
                omega
          have HRR := Lib.hid hr
          have HF := Lib.hid hF
          have HG := Lib.hid hG
          have hhas := hE.has x.1
          cases hA : hasE (entsN y l k) x.1
          · have HST := Lib.hid (firstAt_go (q := badE y l) hlt (by rw [hBE, HF.out, hBA, hA]; rfl))
            have HMH := Lib.hid (hhas.trans hA)
            have hMl := hE.len
            rw [entsN_len] at hMl
            have hMl2 := Nat.le_of_eq hMl
            clear hEG hBF hBE hBA hspl hcut hO hr hF hG hhas hMl
            go_wp2_with fail
            refine HSPL.out.mono ?_
            rintro e w2 ⟨hb2, ⟨ws, v, rfl, hws, hrow⟩⟩
            have hRs : y.R ws x.2 = true := by rw [← HRR.out]; congr 1; rw [← hws]
            rw [hRs]
            have hwsz : ws.size ≤ maxLen := by rw [← len_b, hws]; unfold maxLen; omega
            have hM2 := hM.below hb2
            have hE2 := hE.below hb2
            have HWS := Lib.hid hws
            have hB2 := hB.trans (hb2.mono (by omega))
            have hln : M.length < maxLen := by unfold maxLen; omega
            clear hRs hws
            go_wp2_with (first
              | (at_lookup; refine wpList_mapOk _ rfl _ _ _ rfl 9 63 Tryz.underlying9 Tryz.underlying107 (.slice none 0 0) zeroInts (w.heap.size + 1) M rfl hM2 ws rfl hwsz ?_; rw [HWS.out, HMH.out])
              | (at_mapUpdate; refine wpList_mapPut _ rfl _ _ _ _ rfl 9 63 Tryz.underlying9 Tryz.underlying107 (w.heap.size + 1) M rfl hM2 hln ws v rfl rfl hwsz ?_; intro w3 hM3 hg3))
            obtain ⟨a9, d9, rfl, hI9, hd9, ha9, hA9⟩ := hrow.shape2
            have hwrs : w.heap.size + 1 ≤ wr.heap.size := by omega
            go_roundw
            case rel =>
              refine ⟨k + 1, _, by omega, by go_num, Lib.hid (HR.out.trans HST.out), hB2.grown hg3 (Nat.le_of_lt hM2.lt) (fun j hj => by cases hj; exact Nat.le_refl _), hM3, ?_⟩
              rw [entsN_succ, HG.out]
              exact (hE2.map fun _ _ _ hI => ints_grown hM2 hg3 hI).snoc HWS.out ⟨a9, d9, rfl, ints_grown hM2 hg3 hI9, hd9, ha9, fun ad e => Nat.le_trans hwrs (hA9 ad e)⟩
            case measure => simp [intOf]; omega
          · have HST := Lib.hid (firstAt_stop (q := badE y l) hlt (by rw [hBE, HF.out, hBA, hA]; rfl))
            have HMH := Lib.hid (hhas.trans hA)
            clear hEG hBF hBE hBA hspl hcut hO hr hF hG hhas
            go_wp2_with fail
            refine HSPL.out.mono ?_
            rintro e w2 ⟨hb2, ⟨ws, v, rfl, hws, hrow⟩⟩
            have hRs : y.R ws x.2 = true := by rw [← HRR.out]; congr 1; rw [← hws]
            rw [hRs]
            have hwsz : ws.size ≤ maxLen := by rw [← len_b, hws]; unfold maxLen; omega
            have hM2 := hM.below hb2
            have HWS := Lib.hid hws
            clear hRs hws
            go_wp2_with (at_lookup; refine wpList_mapOk _ rfl _ _ _ rfl 9 63 Tryz.underlying9 Tryz.underlying107 (.slice none 0 0) zeroInts (w.heap.size + 1) M rfl hM2 ws rfl hwsz ?_; rw [HWS.out, HMH.out])
            go_ret3
            have HK : checkE y l = ((k : Int), 5) := by rw [HE.out, HR.out, HST.out]; show ((k : Int), if badF y l k = true then 3 else 5) = _; rw [if_neg (by rw [HF.out]; simp)]
            exact ⟨hBw.trans (hb2.mono hBw.size), by rw [HK]; exact rfl⟩
    · have HST := Lib.hid (firstAt_end (q := badE y l) hlt)
      obtain rfl : k = l.length := by omega
      go_wp2
      go_ret3
      have HK : checkE y l = (0, 0) := by rw [HE.out, HR.out, HST.out]
      exact ⟨hBw, by rw [HK]; exact ⟨_, rfl, Nat.le_succ _, M, hM, hE.mono (Nat.le_succ _)⟩⟩
end Go.Proofs.YtomblajlpanmjaaGreatDoor
