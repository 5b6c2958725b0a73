/-
  Package tympanref06: the folds to the left and upwards.
-/
import Derived.Test.YtgoandhlcekmiaaGreatDoorRC
namespace Go.Proofs.YtgoandhlcekmiaaGreatDoor
open Go.RowKit

/-- The places behind a fold to the left (b columns stay), the first s of them. -/
def leftP (C b : Nat) (P : List (List Leaf)) (s : Nat) : List (List Leaf) := (List.range s).map fun j =>
  (if 2 * b - 1 - j % b < C then turnR 1 0 (P.getD (j / b * C + (2 * b - 1 - j % b)) []) else []) ++ P.getD (j / b * C + j % b) []
/-- The places behind a fold upwards (b rows stay). -/
def upP (C R b : Nat) (P : List (List Leaf)) (s : Nat) : List (List Leaf) := (List.range s).map fun j =>
  (if 2 * b - 1 - j / C < R then turnR 1 1 (P.getD ((2 * b - 1 - j / C) * C + j % C) []) else []) ++ P.getD (j / C * C + j % C) []
theorem leftP_len (C b : Nat) (P : List (List Leaf)) (s : Nat) : (leftP C b P s).length = s := by simp [leftP]
theorem upP_len (C R b : Nat) (P : List (List Leaf)) (s : Nat) : (upP C R b P s).length = s := by simp [upP]
theorem leftP_succ {C b j y s : Nat} {P : List (List Leaf)} (hs : y * b + j = s) (hj : j < b) : leftP C b P s ++ [(if 2 * b - 1 - j < C then turnR 1 0 (P.getD (y * C + (2 * b - 1 - j)) []) else []) ++ P.getD (y * C + j) []] = leftP C b P (s + 1) := by
  have e1 : s % b = j := by rw [← hs, Nat.mul_comm, Nat.mul_add_mod, Nat.mod_eq_of_lt hj]
  have e2 : s / b = y := by rw [← hs, Nat.mul_comm, Nat.mul_add_div (by omega), Nat.div_eq_of_lt hj, Nat.add_zero]
  unfold leftP; rw [List.range_succ, List.map_append]
  simp only [List.map_cons, List.map_nil, e1, e2]
theorem upP_succ {C R b j y s : Nat} {P : List (List Leaf)} (hs : y * C + j = s) (hj : j < C) : upP C R b P s ++ [(if 2 * b - 1 - y < R then turnR 1 1 (P.getD ((2 * b - 1 - y) * C + j) []) else []) ++ P.getD (y * C + j) []] = upP C R b P (s + 1) := by
  have e1 : s % C = j := by rw [← hs, Nat.mul_comm, Nat.mul_add_mod, Nat.mod_eq_of_lt hj]
  have e2 : s / C = y := by rw [← hs, Nat.mul_comm, Nat.mul_add_div (by omega), Nat.div_eq_of_lt hj, Nat.add_zero]
  unfold upP; rw [List.range_succ, List.map_append]
  simp only [List.map_cons, List.map_nil, e1, e2]
theorem wpList_push {ops : Array Oper} {rest : List Oper} {o : Oper} {a : Act} {Q : Exit → Act → World → Prop} (w : World) (hgd : o.guard = none) (s xo : Operand)
    (ho : o.op = .call { callee := .builtin .append, args := #[s, xo], argTypes := #[64, 64] }) (B : Nat) (v : Value) (Ps : List PS) (x : PS) (hs : a.eval s = v) (hown : Bld B Ps v w) (hx : LRow w x)
    (ad : Addr) (hxo : a.eval xo = .slice (some ad) 1 1) (hc : w.cell? ad = some x.sl) (hl : Ps.length ≤ 1000000) (hB : B ≤ w.heap.size)
    (h : ∀ (g m c : Nat) w', Bld B (Ps ++ [x]) (.slice (some ⟨g, 0, none⟩) m c) w' → w.grownBy w' v.ownBlock → Below B w w' → wpList Tryz.prog ops Q rest (a.put o.dst (.slice (some ⟨g, 0, none⟩) m c)) w') :
    wpList Tryz.prog ops Q (o :: rest) a w := by
  obtain ⟨i0, hi0, hz0, hz1, hz2⟩ := info_parts info_place
  have had : ad.add 0 = ad := by unfold Addr.add; rw [if_pos rfl]
  refine wpList_append_lies w hgd s xo 64 ho B 146 i0 _ 1 24 Tryz.underlying64 hi0 hz0 hz1 hz2 rfl (by decide) v Ps.length (Ps.map PS.sl) hs hown.row ad 1 1 [x.sl] hxo rfl (fun j u hj => ?_) (by simp [PS.sl, Value.oneCell']) (by decide) (by unfold maxLen; omega) (by omega) hB w.heap.size rfl ?_
  · cases j with
    | zero => rw [had]; have : u = x.sl := by simpa using hj.symm
              rw [this]; exact hc
    | succ j => simp at hj
  · intro g cap w' hr hg _ _
    exact h _ _ _ _ (hown.push hx hg hr) hg ((Below.refl B w).grown hg hB (fun k hk => (hown.row.lt k hk).1))
theorem wpList_appN {α : Type} {n by_ : Nat} {ST E : TypeId} {z : Value} {g : α → List Int} (T : ElT n by_ ST E z) (hg : ∀ x, (g x).length = n) {ops : Array Oper} {rest : List Oper} {o : Oper} {a : Act} {Q : Exit → Act → World → Prop} (w : World) (hgd : o.guard = none) (s xo : Operand)
    (ho : o.op = .call { callee := .builtin .append, args := #[s, xo], argTypes := #[ST, ST] }) (B : Nat) (v : Value) (L : List α) (hs : a.eval s = v) (hown : OwnR n E g w B v L)
    (b : Option Addr) (M : List α) (m c : Nat) (hm : m = M.length) (hx : a.eval xo = .slice b m c) (hM : RowsAt n g w b M) (hbc : b = none → c = 0) (hl : L.length ≤ 1000000) (hl2 : M.length ≤ 1000000) (hB : B ≤ w.heap.size)
    (h : ∀ (a' : Option Addr) (m' c' : Nat) w', OwnR n E g w' B (.slice a' m' c') (L ++ M) → w.grownBy w' v.ownBlock → Below B w w' → ((Value.slice a' m' c').ownBlock = v.ownBlock ∨ (Value.slice a' m' c').ownBlock = some w.heap.size) → wpList Tryz.prog ops Q rest (a.put o.dst (.slice a' m' c')) w') :
    wpList Tryz.prog ops Q (o :: rest) a w := by
  subst hm
  refine wpList_appL T hg w hgd s xo ho B v L hs hown b M c hx hM hbc hl hl2 hB fun v' w' h1 h2 h3 h4 => ?_
  obtain ⟨a', c', e, -⟩ := h1.rows hg
  subst e
  exact h _ _ _ _ h1 h2 h3 h4
structure LEnv (w : World) (C R : Nat) (A : Option Addr) (n c : Nat) (C' R' : Nat) (v : Value) (Ps : List PS) (wr : World) : Prop where
  bs : BoxAt wr w.heap.size #[.int .i64 C, .int .i64 R, .slice A n c] 66
  br : BoxAt wr (w.heap.size + 1) #[.int .i64 0, .int .i64 0, .slice none 0 0] 66
  bv : BoxAt wr (w.heap.size + 1 + 1) #[.int .i64 C', .int .i64 R', v] 66
  own : Bld (w.heap.size + 1 + 1 + 1) Ps v wr
  low : Below w.heap.size w wr
theorem LEnv.below {w : World} {C R : Nat} {A : Option Addr} {n c C' R' : Nat} {v : Value} {Ps : List PS} {wr w1 : World} (h : LEnv w C R A n c C' R' v Ps wr) (hb : Below wr.heap.size wr w1) : LEnv w C R A n c C' R' v Ps w1 :=
  ⟨h.bs.below hb, h.br.below hb, h.bv.below hb, h.own.below hb, h.low.trans (hb.mono h.low.size)⟩
/-- One more place is put behind the others. -/
theorem LEnv.push {w : World} {C R : Nat} {A : Option Addr} {n c C' R' : Nat} {v : Value} {Ps : List PS} {wr w6 : World} {x : PS} {g m k : Nat} (h : LEnv w C R A n c C' R' v Ps wr) (hO : Bld (w.heap.size + 1 + 1 + 1) (Ps ++ [x]) (.slice (some ⟨g, 0, none⟩) m k) w6) (hg : wr.grownBy w6 v.ownBlock) (hb : Below (w.heap.size + 1 + 1 + 1) wr w6) :
    LEnv w C R A n c C' R' (.slice (some ⟨g, 0, none⟩) m k) (Ps ++ [x]) (w6.setCell ⟨w.heap.size + 1 + 1, 2, none⟩ (.slice (some ⟨g, 0, none⟩) m k)) := by
  have bsg := h.bs.grow h.own.row (Ne.symm heap_place) hg
  have brg := h.br.grow h.own.row (Ne.symm heap_place) hg
  have bvg := h.bv.grow h.own.row (Ne.symm heap_place) hg
  refine ⟨?_, ?_, bvg.set 2 _, hO.set bvg heap_place heap_leaf 2 _, (h.low.trans (hb.mono (B' := w.heap.size) (by omega))).setCell (p := ⟨w.heap.size + 1 + 1, 2, none⟩) (by show w.heap.size ≤ w.heap.size + 1 + 1; omega) _⟩
  · exact bsg.set_other (p := ⟨w.heap.size + 1 + 1, 2, none⟩) (by show w.heap.size ≠ w.heap.size + 1 + 1; omega) _
  · exact brg.set_other (p := ⟨w.heap.size + 1 + 1, 2, none⟩) (by show w.heap.size + 1 ≠ w.heap.size + 1 + 1; omega) _
theorem LEnv.start (w : World) (C R : Nat) (A : Option Addr) (n c C' R' : Nat) : LEnv w C R A n c C' R' (.slice none 0 0) [] (((w.alloc (.cells #[.int .i64 C, .int .i64 R, .slice A n c] 66)).alloc (.cells #[.int .i64 0, .int .i64 0, .slice none 0 0] 66)).alloc (.cells #[.int .i64 C', .int .i64 R', .slice none 0 0] 66)) := by
  refine ⟨((BoxAt.new w _ _).alloc _).alloc _, ?_, ?_, Bld.nil _ _, (((Below.refl w.heap.size w).alloc (Nat.le_refl _) _).alloc (by simp) _).alloc (by simp; omega) _⟩
  · have := (BoxAt.new (w.alloc (.cells #[.int .i64 C, .int .i64 R, .slice A n c] 66)) #[.int .i64 0, .int .i64 0, .slice none 0 0] 66).alloc (.cells #[.int .i64 C', .int .i64 R', .slice none 0 0] 66)
    simpa using this
  · have := BoxAt.new ((w.alloc (.cells #[.int .i64 C, .int .i64 R, .slice A n c] 66)).alloc (.cells #[.int .i64 0, .int .i64 0, .slice none 0 0] 66)) #[.int .i64 C', .int .i64 R', .slice none 0 0] 66
    simpa using this
theorem map_in {Ps : List PS} {k : Nat} (h : k < Ps.length) : (Ps.map (·.l)).getD k [] = Ps[k].l := map_getD Ps h
set_option maxRecDepth 100000 in
set_option maxHeartbeats 8000000 in
theorem foldLeft_any (C R b q : Nat) (A : Option Addr) (n c : Nat) (Ps : List PS) (w : World) (hC : 1 ≤ C ∧ C ≤ 8) (hR : 1 ≤ R ∧ R ≤ 8) (hbq : b + q = C) (hb1 : 1 ≤ b) (hcov : C ≤ 2 * b) (hn : n = Ps.length) (hlen : Ps.length = C * R) (hH : HeapAt w A Ps)
    (hbits : ∀ x ∈ Ps, ∀ y ∈ x.l, LeafBits y) (hsum : ∀ x ∈ Ps, x.l.length ≤ 1000) :
    Calls Tryz.prog 73 #[.agg #[.int .i64 C, .int .i64 R, .slice A n c], .int .i64 q] w (HeapPost w b R (leftP C b (Ps.map (·.l)) (R * b))) := by
  have HLEN := Lib.hid hlen; have HBITS := Lib.hid hbits; have HSUM := Lib.hid hsum; have HNN := Lib.hid hn
  obtain ⟨w3, hw3⟩ : ∃ w3, w3 = ((w.alloc (.cells #[.int .i64 C, .int .i64 R, .slice A n c] 66)).alloc (.cells #[.int .i64 0, .int .i64 0, .slice none 0 0] 66)).alloc (.cells #[.int .i64 b, .int .i64 R, .slice none 0 0] 66) := ⟨_, rfl⟩
  have E0 : LEnv w C R A n c b R (.slice none 0 0) [] w3 := by rw [hw3]; exact LEnv.start w C R A n c b R
  have W3 := Lib.hid hw3
  have hbI : (C : Int) - (q : Int) = (b : Int) := by omega
  have hb8 : b ≤ 8 := by omega
  have HBQ := Lib.hid hbq
  clear hw3 hn hlen hbits hsum hbq
  go_enter Tryz.func73, Tryz.ntmps73
  go_wp2
  rw [← W3.out]
  go_loopw [7] (fun i wr => ∃ (y : Nat) (v : Value) (Qs : List PS), y ≤ R ∧ i = .int .i64 y ∧ LEnv w C R A n c b R v Qs wr ∧ Hid (Qs.map (·.l) = leftP C b (Ps.map (·.l)) (y * b))) (fun i _ => R - (intOf i).toNat)
  case atStart => exact ⟨0, _, [], Nat.zero_le _, rfl, E0, Lib.hid (by rw [Nat.zero_mul]; rfl)⟩
  case round =>
    obtain ⟨y, v, Qs, hy, rfl, E, HQ⟩ := hrel
    clear E0
    have c0 := E.bs.cell 0; have c1 := E.bs.cell 1
    simp at c0 c1
    by_cases hyl : y < R
    · have hyI : (y : Int) < (R : Int) := by omega
      go_wp2
      obtain ⟨wo, hwo⟩ : ∃ wo : World, wo = wr := ⟨_, rfl⟩
      go_loopw [8] (fun i wr => ∃ (j : Nat) (v : Value) (Qs : List PS), j ≤ b ∧ i = .int .i64 j ∧ LEnv w C R A n c b R v Qs wr ∧ Hid (Qs.map (·.l) = leftP C b (Ps.map (·.l)) (y * b + j))) (fun i _ => b - (intOf i).toNat)
      case atStart => exact ⟨0, v, Qs, Nat.zero_le _, rfl, E, HQ⟩
      case round =>
        clear hwo
        obtain ⟨j, v, Qs, hj, rfl, E, HQ⟩ := hrel
        clear c0 c1
        have c0 := E.bs.cell 0; have c1 := E.bs.cell 1; have c2 := E.bs.cell 2
        have hsl := E.bs.lt
        simp at c0 c1 c2
        by_cases hjl : j < b
        · have hjI : (j : Int) < (b : Int) := by omega
          obtain ⟨i, hi⟩ : ∃ i, y * C + j = i := ⟨_, rfl⟩
          have hil : i < Ps.length := by rw [← hi, HLEN.out]; exact mul_lt (by omega) (by omega)
          have hidx : (y : Int) * (C : Int) + (j : Int) = (i : Int) := by rw [← hi, Int.natCast_add, Int.natCast_mul]
          have hyc : 0 ≤ (y : Int) * (C : Int) ∧ (y : Int) * (C : Int) ≤ 64 := ⟨Int.mul_nonneg (by omega) (by omega), by have := Int.mul_le_mul (show (y : Int) ≤ 8 by omega) (show (C : Int) ≤ 8 by omega) (by omega) (by omega); omega⟩
          obtain ⟨hyc0, hyc1⟩ := hyc
          have hHr := hH.below E.low
          obtain ⟨ad, rfl, had, hcell⟩ := hHr.1 i hil
          have hlrow := hHr.2 _ (List.getElem_mem hil)
          have HXB : Hid (∀ z ∈ Ps[i].l, LeafBits z) := Lib.hid (HBITS.out _ (List.getElem_mem hil))
          have HXL : Hid (Ps[i].l.length ≤ 1000) := Lib.hid (HSUM.out _ (List.getElem_mem hil))
          obtain ⟨x, ex⟩ : ∃ x, x = Ps[i] := ⟨_, rfl⟩
          have HXE : Hid ((Ps.map (·.l)).getD i [] = x.l) := Lib.hid (by rw [map_in hil, ex])
          rw [← ex] at hcell hlrow HXB HXL
          have hilI : (i : Int) < (n : Int) := by have := HNN.out; omega
          obtain ⟨xa, xc, xl⟩ := x
          obtain ⟨xm, hsx⟩ : ∃ m, m = xl.length := ⟨_, rfl⟩
          have HXM := Lib.hid hsx
          have hcell : wr.cell? (ad.add i) = some (.slice xa xm xc) := by rw [hsx]; exact hcell
          have HXC : Hid (xa = none → xc = 0) := Lib.hid hlrow.2.1
          have hxr : RowsAt 4 Leaf.l wr xa xl := hlrow.1
          have HI := Lib.hid hi
          have n3 := World.new_ne wr _ hcell
          clear ex hi hsx
          have hm := World.ownsRow_made (e := 77) (size := 4) (base := wr.heap.size) wr #[] 0 (Nat.le_refl _) (Nat.zero_le _) rfl
          have hown : OwnR 4 77 Leaf.l (wr.alloc (.cells #[] 77)) wr.heap.size (.slice (some ⟨wr.heap.size, 0, none⟩) 0 0) [] := hm
          have hBa := (Below.refl wr.heap.size wr).alloc (Nat.le_refl _) (.cells #[] 77)
          clear hm
          have hlow := E.low.size
          have hcA := (hBa.cell (p := ad.add i) (by rw [add_block]; exact had)).trans hcell
          have HBL : Hid (Qs.length ≤ 1000) := Lib.hid (by
            have h := congrArg List.length HQ.out
            rw [List.length_map, leftP_len] at h
            have : y * b ≤ 8 * 8 := Nat.mul_le_mul (by omega) (by omega)
            omega)
          by_cases hfr : 2 * b - 1 - j < C
          · obtain ⟨i2, hi2⟩ : ∃ i, y * C + (2 * b - 1 - j) = i := ⟨_, rfl⟩
            obtain ⟨fr, hfrn⟩ : ∃ fr : Nat, 2 * b - 1 - j = fr := ⟨_, rfl⟩
            have hfrI : 2 * (b : Int) - 1 - (j : Int) = (fr : Int) := by omega
            have hfr8 : (fr : Int) < (C : Int) := by omega
            have hil2 : i2 < Ps.length := by rw [← hi2, hfrn, HLEN.out]; exact mul_lt (by omega) (by omega)
            rw [hfrn] at hi2
            have hidx2 : (y : Int) * (C : Int) + (fr : Int) = (i2 : Int) := by rw [← hi2, Int.natCast_add, Int.natCast_mul]
            have hyd : 0 ≤ (y : Int) * (C : Int) ∧ (y : Int) * (C : Int) ≤ 64 := ⟨Int.mul_nonneg (by omega) (by omega), by have := Int.mul_le_mul (show (y : Int) ≤ 8 by omega) (show (C : Int) ≤ 8 by omega) (by omega) (by omega); omega⟩
            obtain ⟨hyd0, hyd1⟩ := hyd
            obtain ⟨_, e2, had2, hcell2⟩ := hHr.1 i2 hil2
            cases e2
            have hlrow2 := hHr.2 _ (List.getElem_mem hil2)
            have HZB : Hid (∀ z ∈ Ps[i2].l, LeafBits z) := Lib.hid (HBITS.out _ (List.getElem_mem hil2))
            have HZL : Hid (Ps[i2].l.length ≤ 1000) := Lib.hid (HSUM.out _ (List.getElem_mem hil2))
            obtain ⟨x2, ex2⟩ : ∃ x, x = Ps[i2] := ⟨_, rfl⟩
            have HZE : Hid ((Ps.map (·.l)).getD i2 [] = x2.l) := Lib.hid (by rw [map_in hil2, ex2])
            rw [← ex2] at hcell2 hlrow2 HZB HZL
            have hilI2 : (i2 : Int) < (n : Int) := by have := HNN.out; omega
            obtain ⟨za, zc, zl⟩ := x2
            obtain ⟨zm, hsz⟩ : ∃ m, m = zl.length := ⟨_, rfl⟩
            have HZM := Lib.hid hsz
            have hcell2 : wr.cell? (ad.add i2) = some (.slice za zm zc) := by rw [hsz]; exact hcell2
            have hzr : RowsAt 4 Leaf.l wr za zl := hlrow2.1
            have HF : ∀ (a : Option Addr) (k : Nat), Hid ((Qs ++ [PS.mk a k (turnR 1 0 zl ++ xl)]).map (·.l) = leftP C b (Ps.map (·.l)) (y * b + (j + 1))) := fun a k => Lib.hid (by
              rw [List.map_append, HQ.out, ← Nat.add_assoc, ← leftP_succ rfl hjl, if_pos hfr, hfrn, hi2, HZE.out, HI.out, HXE.out]; rfl)
            have HHI := HI
            clear ex2 hi2 hsz hfrn
            go_wp2_with (first
              | (at_builtin; first
                | (refine wpList_appN tPlace leaf_l _ rfl _ _ rfl wr.heap.size _ [] rfl hown xa xl xm xc HXM.out rfl (hxr.alloc _) HXC.out (by simp) (Nat.le_trans HXL.out (by decide)) (by simp) ?_; intro a1 m1 k1 w1 hO1 hg1 hb1 ho1; have hB1 := hBa.trans hb1; have hE1 := E.below hB1; have hO1 : OwnR 4 77 Leaf.l w1 wr.heap.size (.slice a1 m1 k1) xl := hO1; have d0 := hE1.bs.cell 0; have d1 := hE1.bs.cell 1; have d2 := hE1.bs.cell 2; have v2 := hE1.bv.cell 2; have hvl := hE1.bv.lt; simp at d0 d1 d2 v2; have hcZ := (hB1.cell (p := ad.add i2) (by rw [add_block]; exact had2)).trans hcell2)
                | (refine wpList_appN tPlace leaf_l _ rfl _ _ rfl w1.heap.size _ (turnR 1 0 zl) rfl hO4 a1 xl m1 k1 hO1.lrow.1 rfl (hO1.lrow.2.1.below hb4) hO1.lrow.2.2.1 (by rw [turnR_len]; exact Nat.le_trans HZL.out (by decide)) (Nat.le_trans HXL.out (by decide)) hb4.size ?_; intro a5 m5 k5 w5 hO5 hg5 hb5 ho5; have hB5 := hb4.trans hb5; have hE5 := hE1.below hB5; have v5 := hE5.bv.cell 2; have hvl5 := hE5.bv.lt; simp at v5)
                | (refine wpList_push _ rfl _ _ rfl (w.heap.size + 1 + 1 + 1) v Qs ⟨a5, k5, (turnR 1 0 zl ++ xl)⟩ rfl (hE5.own.alloc _) (hO5.lrow.2.alloc _) ⟨w5.heap.size, 0, none⟩ rfl (by rw [show (PS.mk a5 k5 (turnR 1 0 zl ++ xl)).sl = .slice a5 m5 k5 from by rw [hO5.lrow.1]; rfl]; exact (BoxAt.new w5 _ _).cell 0) (by have := HBL.out; omega) (by have := hE5.low.size; simp; omega) ?_; intro g6 m6 k6 w6 hO6 hg6 hb6; have hE6 := (hE5.below ((Below.refl _ _).alloc (Nat.le_refl _) (.cells #[.slice a5 m5 k5] 146))); have bvg := hE6.bv.grow hE6.own.row (Ne.symm heap_place) hg6; have x8 := bvg.cell 2; have z8 := bvg.free 2; have l8 := bvg.lt; simp at x8))
              | (go_at_call 92; refine (refTurned_any za zl zm zc 1 0 _ (hzr.below hB1) HZM.out HZL.out HZB.out (Or.inr rfl) (Or.inl rfl)).mono ?_; rintro e w4 ⟨vv, rfl, hO4, hb4⟩; obtain ⟨a4, k4, e4, -, -, -, -, -⟩ := hO4.rows leaf_l; obtain ⟨m4, hm4⟩ : ∃ m, m = (turnR 1 0 zl).length := ⟨_, rfl⟩; rw [← hm4] at e4; subst e4; have HM4 := Lib.hid hm4; clear hm4))
            have hEP := hE6.push hO6 hg6 hb6
            go_wp2
            go_roundw
            case rel => exact ⟨j + 1, _, _, by omega, by go_num, hEP, HF _ _⟩
            case measure => simp [intOf]; omega
          · have hfI : ¬ 2 * (b : Int) - 1 - (j : Int) < (C : Int) := by omega
            have HF : ∀ (a : Option Addr) (k : Nat), Hid ((Qs ++ [PS.mk a k (xl)]).map (·.l) = leftP C b (Ps.map (·.l)) (y * b + (j + 1))) := fun a k => Lib.hid (by
              rw [List.map_append, HQ.out, ← Nat.add_assoc, ← leftP_succ rfl hjl, if_neg hfr, HI.out, HXE.out]; rfl)
            go_wp2_with (at_builtin; first
              | (refine wpList_appN tPlace leaf_l _ rfl _ _ rfl wr.heap.size _ [] rfl hown xa xl xm xc HXM.out rfl (hxr.alloc _) HXC.out (by simp) (Nat.le_trans HXL.out (by decide)) (by simp) ?_; intro a1 m1 k1 w1 hO1 hg1 hb1 ho1; have hB1 := hBa.trans hb1; have hE1 := E.below hB1; have hO1 : OwnR 4 77 Leaf.l w1 wr.heap.size (.slice a1 m1 k1) xl := hO1; have d0 := hE1.bs.cell 0; have d1 := hE1.bs.cell 1; have d2 := hE1.bs.cell 2; have v2 := hE1.bv.cell 2; have hvl := hE1.bv.lt; simp at d0 d1 d2 v2)
              | (refine wpList_push _ rfl _ _ rfl (w.heap.size + 1 + 1 + 1) v Qs ⟨a1, k1, xl⟩ rfl (hE1.own.alloc _) (hO1.lrow.2.alloc _) ⟨w1.heap.size, 0, none⟩ rfl (by rw [show (PS.mk a1 k1 xl).sl = .slice a1 m1 k1 from by rw [hO1.lrow.1]; rfl]; exact (BoxAt.new w1 _ _).cell 0) (by have := HBL.out; omega) (by have := hE1.low.size; simp; omega) ?_; intro g6 m6 k6 w6 hO6 hg6 hb6; have hE6 := (hE1.below ((Below.refl _ _).alloc (Nat.le_refl _) (.cells #[.slice a1 m1 k1] 146))); have bvg := hE6.bv.grow hE6.own.row (Ne.symm heap_place) hg6; have x8 := bvg.cell 2; have z8 := bvg.free 2; have l8 := bvg.lt; simp at x8))
            have hEP := hE6.push hO6 hg6 hb6
            go_wp2
            go_roundw
            case rel => exact ⟨j + 1, _, _, by omega, by go_num, hEP, HF _ _⟩
            case measure => simp [intOf]; omega
        · have hjC : j = b := by omega
          have hys : y * b + j = (y + 1) * b := by rw [hjC, Nat.succ_mul]
          rw [hys] at HQ
          have hjI : ¬ (j : Int) < (b : Int) := by omega
          clear hys hjC
          go_wp2
          go_roundw
          case rel => exact ⟨y + 1, v, Qs, by omega, by go_num, E, HQ⟩
          case measure => simp [intOf]; omega
    · have hyR : y = R := by omega
      have hyI : ¬ (y : Int) < (R : Int) := by omega
      rw [hyR] at HQ
      clear hyR
      have r0 := E.br.cell 0; have r1 := E.br.cell 1; have r2 := E.br.cell 2
      have z := fun j => E.br.free j
      have v0 := E.bv.cell 0; have v1 := E.bv.cell 1; have v2 := E.bv.cell 2
      have hvl := E.bv.lt; have hrl := E.br.lt
      simp at r0 r1 r2 v0 v1 v2
      obtain ⟨va, vc, ev, -⟩ := E.own.form
      obtain ⟨vm, hvm⟩ : ∃ m, Qs.length = m := ⟨_, rfl⟩
      rw [hvm] at ev
      subst ev
      clear hvm
      go_wp2
      refine bodyPost_ret (v := .agg #[.int .i64 b, .int .i64 R, .slice va vm vc]) (by simp [results, Tryz.results73, go_sem, r0, r1, r2]) rfl ?_
      have b1 := ((E.own.mono (B' := w.heap.size) (by omega)).set E.br heap_place heap_leaf 0 (.int .i64 b))
      have b2 := b1.set (E.br.set 0 _) heap_place heap_leaf 1 (.int .i64 R)
      have b3 := b2.set ((E.br.set 0 _).set 1 _) heap_place heap_leaf 2 (.slice va vm vc)
      exact ⟨_, _, _, _, rfl, b3, HQ.out, ((E.low.setCell (p := ⟨w.heap.size + 1, 0, none⟩) (by show w.heap.size ≤ w.heap.size + 1; omega) _).setCell (p := ⟨w.heap.size + 1, 1, none⟩) (by show w.heap.size ≤ w.heap.size + 1; omega) _).setCell (p := ⟨w.heap.size + 1, 2, none⟩) (by show w.heap.size ≤ w.heap.size + 1; omega) _⟩
set_option maxRecDepth 100000 in
set_option maxHeartbeats 8000000 in
theorem foldUp_any (C R b q : Nat) (A : Option Addr) (n c : Nat) (Ps : List PS) (w : World) (hC : 1 ≤ C ∧ C ≤ 8) (hR : 1 ≤ R ∧ R ≤ 8) (hbq : b + q = R) (hb1 : 1 ≤ b) (hcov : R ≤ 2 * b) (hn : n = Ps.length) (hlen : Ps.length = C * R) (hH : HeapAt w A Ps)
    (hbits : ∀ x ∈ Ps, ∀ y ∈ x.l, LeafBits y) (hsum : ∀ x ∈ Ps, x.l.length ≤ 1000) :
    Calls Tryz.prog 75 #[.agg #[.int .i64 C, .int .i64 R, .slice A n c], .int .i64 q] w (HeapPost w C b (upP C R b (Ps.map (·.l)) (b * C))) := by
  have HLEN := Lib.hid hlen; have HBITS := Lib.hid hbits; have HSUM := Lib.hid hsum; have HNN := Lib.hid hn
  obtain ⟨w3, hw3⟩ : ∃ w3, w3 = ((w.alloc (.cells #[.int .i64 C, .int .i64 R, .slice A n c] 66)).alloc (.cells #[.int .i64 0, .int .i64 0, .slice none 0 0] 66)).alloc (.cells #[.int .i64 C, .int .i64 b, .slice none 0 0] 66) := ⟨_, rfl⟩
  have E0 : LEnv w C R A n c C b (.slice none 0 0) [] w3 := by rw [hw3]; exact LEnv.start w C R A n c C b
  have W3 := Lib.hid hw3
  have hbI : (R : Int) - (q : Int) = (b : Int) := by omega
  have hb8 : b ≤ 8 := by omega
  have HBQ := Lib.hid hbq
  clear hw3 hn hlen hbits hsum hbq
  go_enter Tryz.func75, Tryz.ntmps75
  go_wp2
  rw [← W3.out]
  go_loopw [7] (fun i wr => ∃ (y : Nat) (v : Value) (Qs : List PS), y ≤ b ∧ i = .int .i64 y ∧ LEnv w C R A n c C b v Qs wr ∧ Hid (Qs.map (·.l) = upP C R b (Ps.map (·.l)) (y * C))) (fun i _ => b - (intOf i).toNat)
  case atStart => exact ⟨0, _, [], Nat.zero_le _, rfl, E0, Lib.hid (by rw [Nat.zero_mul]; rfl)⟩
  case round =>
    obtain ⟨y, v, Qs, hy, rfl, E, HQ⟩ := hrel
    clear E0
    have c0 := E.bs.cell 0; have c1 := E.bs.cell 1
    simp at c0 c1
    by_cases hyl : y < b
    · have hyI : (y : Int) < (b : Int) := by omega
      go_wp2
      obtain ⟨wo, hwo⟩ : ∃ wo : World, wo = wr := ⟨_, rfl⟩
      go_loopw [8] (fun i wr => ∃ (j : Nat) (v : Value) (Qs : List PS), j ≤ C ∧ i = .int .i64 j ∧ LEnv w C R A n c C b v Qs wr ∧ Hid (Qs.map (·.l) = upP C R b (Ps.map (·.l)) (y * C + j))) (fun i _ => C - (intOf i).toNat)
      case atStart => exact ⟨0, v, Qs, Nat.zero_le _, rfl, E, HQ⟩
      case round =>
        clear hwo
        obtain ⟨j, v, Qs, hj, rfl, E, HQ⟩ := hrel
        clear c0 c1
        have c0 := E.bs.cell 0; have c1 := E.bs.cell 1; have c2 := E.bs.cell 2
        have hsl := E.bs.lt
        simp at c0 c1 c2
        by_cases hjl : j < C
        · have hjI : (j : Int) < (C : Int) := by omega
          obtain ⟨i, hi⟩ : ∃ i, y * C + j = i := ⟨_, rfl⟩
          have hil : i < Ps.length := by rw [← hi, HLEN.out]; exact mul_lt (by omega) (by omega)
          have hidx : (y : Int) * (C : Int) + (j : Int) = (i : Int) := by rw [← hi, Int.natCast_add, Int.natCast_mul]
          have hyc : 0 ≤ (y : Int) * (C : Int) ∧ (y : Int) * (C : Int) ≤ 64 := ⟨Int.mul_nonneg (by omega) (by omega), by have := Int.mul_le_mul (show (y : Int) ≤ 8 by omega) (show (C : Int) ≤ 8 by omega) (by omega) (by omega); omega⟩
          obtain ⟨hyc0, hyc1⟩ := hyc
          have hHr := hH.below E.low
          obtain ⟨ad, rfl, had, hcell⟩ := hHr.1 i hil
          have hlrow := hHr.2 _ (List.getElem_mem hil)
          have HXB : Hid (∀ z ∈ Ps[i].l, LeafBits z) := Lib.hid (HBITS.out _ (List.getElem_mem hil))
          have HXL : Hid (Ps[i].l.length ≤ 1000) := Lib.hid (HSUM.out _ (List.getElem_mem hil))
          obtain ⟨x, ex⟩ : ∃ x, x = Ps[i] := ⟨_, rfl⟩
          have HXE : Hid ((Ps.map (·.l)).getD i [] = x.l) := Lib.hid (by rw [map_in hil, ex])
          rw [← ex] at hcell hlrow HXB HXL
          have hilI : (i : Int) < (n : Int) := by have := HNN.out; omega
          obtain ⟨xa, xc, xl⟩ := x
          obtain ⟨xm, hsx⟩ : ∃ m, m = xl.length := ⟨_, rfl⟩
          have HXM := Lib.hid hsx
          have hcell : wr.cell? (ad.add i) = some (.slice xa xm xc) := by rw [hsx]; exact hcell
          have HXC : Hid (xa = none → xc = 0) := Lib.hid hlrow.2.1
          have hxr : RowsAt 4 Leaf.l wr xa xl := hlrow.1
          have HI := Lib.hid hi
          have n3 := World.new_ne wr _ hcell
          clear ex hi hsx
          have hm := World.ownsRow_made (e := 77) (size := 4) (base := wr.heap.size) wr #[] 0 (Nat.le_refl _) (Nat.zero_le _) rfl
          have hown : OwnR 4 77 Leaf.l (wr.alloc (.cells #[] 77)) wr.heap.size (.slice (some ⟨wr.heap.size, 0, none⟩) 0 0) [] := hm
          have hBa := (Below.refl wr.heap.size wr).alloc (Nat.le_refl _) (.cells #[] 77)
          clear hm
          have hlow := E.low.size
          have hcA := (hBa.cell (p := ad.add i) (by rw [add_block]; exact had)).trans hcell
          have HBL : Hid (Qs.length ≤ 1000) := Lib.hid (by
            have h := congrArg List.length HQ.out
            rw [List.length_map, upP_len] at h
            have : y * C ≤ 8 * 8 := Nat.mul_le_mul (by omega) (by omega)
            omega)
          by_cases hfr : 2 * b - 1 - y < R
          · obtain ⟨i2, hi2⟩ : ∃ i, (2 * b - 1 - y) * C + j = i := ⟨_, rfl⟩
            obtain ⟨fr, hfrn⟩ : ∃ fr : Nat, 2 * b - 1 - y = fr := ⟨_, rfl⟩
            have hfrI : 2 * (b : Int) - 1 - (y : Int) = (fr : Int) := by omega
            have hfr8 : (fr : Int) < (R : Int) := by omega
            have hil2 : i2 < Ps.length := by rw [← hi2, hfrn, HLEN.out]; exact mul_lt (by omega) (by omega)
            rw [hfrn] at hi2
            have hidx2 : (fr : Int) * (C : Int) + (j : Int) = (i2 : Int) := by rw [← hi2, Int.natCast_add, Int.natCast_mul]
            have hyd : 0 ≤ (fr : Int) * (C : Int) ∧ (fr : Int) * (C : Int) ≤ 64 := ⟨Int.mul_nonneg (by omega) (by omega), by have := Int.mul_le_mul (show (fr : Int) ≤ 8 by omega) (show (C : Int) ≤ 8 by omega) (by omega) (by omega); omega⟩
            obtain ⟨hyd0, hyd1⟩ := hyd
            obtain ⟨_, e2, had2, hcell2⟩ := hHr.1 i2 hil2
            cases e2
            have hlrow2 := hHr.2 _ (List.getElem_mem hil2)
            have HZB : Hid (∀ z ∈ Ps[i2].l, LeafBits z) := Lib.hid (HBITS.out _ (List.getElem_mem hil2))
            have HZL : Hid (Ps[i2].l.length ≤ 1000) := Lib.hid (HSUM.out _ (List.getElem_mem hil2))
            obtain ⟨x2, ex2⟩ : ∃ x, x = Ps[i2] := ⟨_, rfl⟩
            have HZE : Hid ((Ps.map (·.l)).getD i2 [] = x2.l) := Lib.hid (by rw [map_in hil2, ex2])
            rw [← ex2] at hcell2 hlrow2 HZB HZL
            have hilI2 : (i2 : Int) < (n : Int) := by have := HNN.out; omega
            obtain ⟨za, zc, zl⟩ := x2
            obtain ⟨zm, hsz⟩ : ∃ m, m = zl.length := ⟨_, rfl⟩
            have HZM := Lib.hid hsz
            have hcell2 : wr.cell? (ad.add i2) = some (.slice za zm zc) := by rw [hsz]; exact hcell2
            have hzr : RowsAt 4 Leaf.l wr za zl := hlrow2.1
            have HF : ∀ (a : Option Addr) (k : Nat), Hid ((Qs ++ [PS.mk a k (turnR 1 1 zl ++ xl)]).map (·.l) = upP C R b (Ps.map (·.l)) (y * C + (j + 1))) := fun a k => Lib.hid (by
              rw [List.map_append, HQ.out, ← Nat.add_assoc, ← upP_succ rfl hjl, if_pos hfr, hfrn, hi2, HZE.out, HI.out, HXE.out]; rfl)
            have HHI := HI
            clear ex2 hi2 hsz hfrn
            go_wp2_with (first
              | (at_builtin; first
                | (refine wpList_appN tPlace leaf_l _ rfl _ _ rfl wr.heap.size _ [] rfl hown xa xl xm xc HXM.out rfl (hxr.alloc _) HXC.out (by simp) (Nat.le_trans HXL.out (by decide)) (by simp) ?_; intro a1 m1 k1 w1 hO1 hg1 hb1 ho1; have hB1 := hBa.trans hb1; have hE1 := E.below hB1; have hO1 : OwnR 4 77 Leaf.l w1 wr.heap.size (.slice a1 m1 k1) xl := hO1; have d0 := hE1.bs.cell 0; have d1 := hE1.bs.cell 1; have d2 := hE1.bs.cell 2; have v2 := hE1.bv.cell 2; have hvl := hE1.bv.lt; simp at d0 d1 d2 v2; have hcZ := (hB1.cell (p := ad.add i2) (by rw [add_block]; exact had2)).trans hcell2)
                | (refine wpList_appN tPlace leaf_l _ rfl _ _ rfl w1.heap.size _ (turnR 1 1 zl) rfl hO4 a1 xl m1 k1 hO1.lrow.1 rfl (hO1.lrow.2.1.below hb4) hO1.lrow.2.2.1 (by rw [turnR_len]; exact Nat.le_trans HZL.out (by decide)) (Nat.le_trans HXL.out (by decide)) hb4.size ?_; intro a5 m5 k5 w5 hO5 hg5 hb5 ho5; have hB5 := hb4.trans hb5; have hE5 := hE1.below hB5; have v5 := hE5.bv.cell 2; have hvl5 := hE5.bv.lt; simp at v5)
                | (refine wpList_push _ rfl _ _ rfl (w.heap.size + 1 + 1 + 1) v Qs ⟨a5, k5, (turnR 1 1 zl ++ xl)⟩ rfl (hE5.own.alloc _) (hO5.lrow.2.alloc _) ⟨w5.heap.size, 0, none⟩ rfl (by rw [show (PS.mk a5 k5 (turnR 1 1 zl ++ xl)).sl = .slice a5 m5 k5 from by rw [hO5.lrow.1]; rfl]; exact (BoxAt.new w5 _ _).cell 0) (by have := HBL.out; omega) (by have := hE5.low.size; simp; omega) ?_; intro g6 m6 k6 w6 hO6 hg6 hb6; have hE6 := (hE5.below ((Below.refl _ _).alloc (Nat.le_refl _) (.cells #[.slice a5 m5 k5] 146))); have bvg := hE6.bv.grow hE6.own.row (Ne.symm heap_place) hg6; have x8 := bvg.cell 2; have z8 := bvg.free 2; have l8 := bvg.lt; simp at x8))
              | (go_at_call 92; refine (refTurned_any za zl zm zc 1 1 _ (hzr.below hB1) HZM.out HZL.out HZB.out (Or.inr rfl) (Or.inr rfl)).mono ?_; rintro e w4 ⟨vv, rfl, hO4, hb4⟩; obtain ⟨a4, k4, e4, -, -, -, -, -⟩ := hO4.rows leaf_l; obtain ⟨m4, hm4⟩ : ∃ m, m = (turnR 1 1 zl).length := ⟨_, rfl⟩; rw [← hm4] at e4; subst e4; have HM4 := Lib.hid hm4; clear hm4))
            have hEP := hE6.push hO6 hg6 hb6
            go_wp2
            go_roundw
            case rel => exact ⟨j + 1, _, _, by omega, by go_num, hEP, HF _ _⟩
            case measure => simp [intOf]; omega
          · have hfI : ¬ 2 * (b : Int) - 1 - (y : Int) < (R : Int) := by omega
            have HF : ∀ (a : Option Addr) (k : Nat), Hid ((Qs ++ [PS.mk a k (xl)]).map (·.l) = upP C R b (Ps.map (·.l)) (y * C + (j + 1))) := fun a k => Lib.hid (by
              rw [List.map_append, HQ.out, ← Nat.add_assoc, ← upP_succ rfl hjl, if_neg hfr, HI.out, HXE.out]; rfl)
            go_wp2_with (at_builtin; first
              | (refine wpList_appN tPlace leaf_l _ rfl _ _ rfl wr.heap.size _ [] rfl hown xa xl xm xc HXM.out rfl (hxr.alloc _) HXC.out (by simp) (Nat.le_trans HXL.out (by decide)) (by simp) ?_; intro a1 m1 k1 w1 hO1 hg1 hb1 ho1; have hB1 := hBa.trans hb1; have hE1 := E.below hB1; have hO1 : OwnR 4 77 Leaf.l w1 wr.heap.size (.slice a1 m1 k1) xl := hO1; have d0 := hE1.bs.cell 0; have d1 := hE1.bs.cell 1; have d2 := hE1.bs.cell 2; have v2 := hE1.bv.cell 2; have hvl := hE1.bv.lt; simp at d0 d1 d2 v2)
              | (refine wpList_push _ rfl _ _ rfl (w.heap.size + 1 + 1 + 1) v Qs ⟨a1, k1, xl⟩ rfl (hE1.own.alloc _) (hO1.lrow.2.alloc _) ⟨w1.heap.size, 0, none⟩ rfl (by rw [show (PS.mk a1 k1 xl).sl = .slice a1 m1 k1 from by rw [hO1.lrow.1]; rfl]; exact (BoxAt.new w1 _ _).cell 0) (by have := HBL.out; omega) (by have := hE1.low.size; simp; omega) ?_; intro g6 m6 k6 w6 hO6 hg6 hb6; have hE6 := (hE1.below ((Below.refl _ _).alloc (Nat.le_refl _) (.cells #[.slice a1 m1 k1] 146))); have bvg := hE6.bv.grow hE6.own.row (Ne.symm heap_place) hg6; have x8 := bvg.cell 2; have z8 := bvg.free 2; have l8 := bvg.lt; simp at x8))
            have hEP := hE6.push hO6 hg6 hb6
            go_wp2
            go_roundw
            case rel => exact ⟨j + 1, _, _, by omega, by go_num, hEP, HF _ _⟩
            case measure => simp [intOf]; omega
        · have hjC : j = C := by omega
          have hys : y * C + j = (y + 1) * C := by rw [hjC, Nat.succ_mul]
          rw [hys] at HQ
          have hjI : ¬ (j : Int) < (C : Int) := by omega
          clear hys hjC
          go_wp2
          go_roundw
          case rel => exact ⟨y + 1, v, Qs, by omega, by go_num, E, HQ⟩
          case measure => simp [intOf]; omega
    · have hyR : y = b := by omega
      have hyI : ¬ (y : Int) < (b : Int) := by omega
      rw [hyR] at HQ
      clear hyR
      have r0 := E.br.cell 0; have r1 := E.br.cell 1; have r2 := E.br.cell 2
      have z := fun j => E.br.free j
      have v0 := E.bv.cell 0; have v1 := E.bv.cell 1; have v2 := E.bv.cell 2
      have hvl := E.bv.lt; have hrl := E.br.lt
      simp at r0 r1 r2 v0 v1 v2
      obtain ⟨va, vc, ev, -⟩ := E.own.form
      obtain ⟨vm, hvm⟩ : ∃ m, Qs.length = m := ⟨_, rfl⟩
      rw [hvm] at ev
      subst ev
      clear hvm
      go_wp2
      refine bodyPost_ret (v := .agg #[.int .i64 C, .int .i64 b, .slice va vm vc]) (by simp [results, Tryz.results75, go_sem, r0, r1, r2]) rfl ?_
      have b1 := ((E.own.mono (B' := w.heap.size) (by omega)).set E.br heap_place heap_leaf 0 (.int .i64 C))
      have b2 := b1.set (E.br.set 0 _) heap_place heap_leaf 1 (.int .i64 b)
      have b3 := b2.set ((E.br.set 0 _).set 1 _) heap_place heap_leaf 2 (.slice va vm vc)
      exact ⟨_, _, _, _, rfl, b3, HQ.out, ((E.low.setCell (p := ⟨w.heap.size + 1, 0, none⟩) (by show w.heap.size ≤ w.heap.size + 1; omega) _).setCell (p := ⟨w.heap.size + 1, 1, none⟩) (by show w.heap.size ≤ w.heap.size + 1; omega) _).setCell (p := ⟨w.heap.size + 1, 2, none⟩) (by show w.heap.size ≤ w.heap.size + 1; omega) _⟩
end Go.Proofs.YtgoandhlcekmiaaGreatDoor
