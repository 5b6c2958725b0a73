/-
  Package press: trees of orders: what is asked of a node, of all below it; whether a leaf holds, by the reference.
-/
import Derived.Test.YtpplcbpnojggcaaAD
import Derived.Test.YtpplcbpnojggcaaAL
import Derived.Test.YtpplcbpnojggcaaGB
import Derived.Test.YtpplcbpnojggcaaAC
import Derived.Deep.RegionHeld3
import Derived.Test.YtpplcbpnojggcaaG9
import Derived.Deep.AppendLies
import Derived.Test.YtpplcbpnojggcaaGA
import Derived.StillTailTactics
import Derived.Test.YtpplcbpnojggcaaGF
import Derived.Test.YtpplcbpnojggcaaAF
import Derived.Test.YtpplcbpnojggcaaGE
import Derived.Test.YtpplcbpnojggcaaAE

namespace Go.Proofs.Ytpplcbpnojggcaa
open Go.RowKit Go.Maps Go.Shelf

/-- A node of a tree: its kind, the slice of its branches. -/
structure Nd where
  kind : Int
  a : Option Addr
  nx : List Int
  c : Nat
def ndV (x : Nd) : List Value := [.int .i64 x.kind, .slice x.a x.nx.length x.c]
def noNd : Nd := ⟨0, none, [], 0⟩
theorem nd_getD {T : List Nd} {k : Nat} (h : k < T.length) : T.getD k noNd = T[k] := by rw [List.getD_eq_getElem?_getD, List.getElem?_eq_getElem h]; rfl
structure NodesAt (w : World) (a : Option Addr) (T : List Nd) : Prop where
  row : RowsG 2 ndV w a T
  nxt : ∀ x ∈ T, RowsAt 1 intL w x.a x.nx
theorem NodesAt.below {w w' : World} {a : Option Addr} {T : List Nd} (h : NodesAt w a T) (hb : Below w.heap.size w w') : NodesAt w' a T := ⟨h.row.below hb, fun x hx => (h.nxt x hx).below hb⟩
theorem NodesAt.node {w : World} {a : Option Addr} {T : List Nd} (h : NodesAt w a T) {k : Nat} (hk : k < T.length) : ∃ ad, a = some ad ∧ (ad.add (k * 2)).block < w.heap.size ∧
    w.cell? (ad.add (k * 2)) = some (.int .i64 T[k].kind) ∧ w.cell? ⟨(ad.add (k * 2)).block, (ad.add (k * 2)).off + 1, none⟩ = some (.slice T[k].a T[k].nx.length T[k].c) := by
  obtain ⟨ad, e, hlt, hs⟩ := h.row k hk
  exact ⟨ad, e, by rw [add_block]; exact hlt, hs 0 (by decide), hs 1 (by decide)⟩
/-- The minutes of the colours that do not stand in an order. -/
def restI (x : Cols) (O : List Int) : Int := (leftK O x.m.length).foldl (fun s y => s + x.m.getD y.toNat 0) 0
/-- Whether a leaf holds. -/
def holdB (x : Cols) (bd kind : Int) (O : List Int) : Bool :=
  if kind = 1 then !((minsE x O).2 == 0) else ((minsE x O).2 == 0) && decide (bd ≤ (minsE x O).1 + restI x O)
theorem fold_from {α : Type} (f : α → Int) : ∀ (L : List α) (a : Int), L.foldl (fun s y => s + f y) a = a + L.foldl (fun s y => s + f y) 0
  | [], a => by simp
  | y :: L, a => by
    rw [List.foldl_cons, List.foldl_cons, fold_from f L (a + f y), fold_from f L (0 + f y)]; omega
theorem rest_bd {x : Cols} (h : ColsOk x) : ∀ (L : List Int) (a : Int), a ≤ L.foldl (fun s y => s + x.m.getD y.toNat 0) a ∧ L.foldl (fun s y => s + x.m.getD y.toNat 0) a ≤ a + 10000 * L.length
  | [], a => ⟨Int.le_refl _, by simp⟩
  | y :: L, a => by
    have h1 := getD_bd h.mins (by omega) y.toNat
    have h2 := rest_bd h L (a + x.m.getD y.toNat 0)
    rw [List.foldl_cons, List.length_cons]
    omega
theorem mins_bd {x : Cols} (h : ColsOk x) {O : List Int} (hol : O.length ≤ 6) : 0 ≤ (minsE x O).1 ∧ (minsE x O).1 ≤ 120000 := by
  have h1 := (ord_bd h O O.length).2
  unfold minsE
  split
  · exact ⟨Int.le_refl _, by decide⟩
  · dsimp only; omega
/-- The first fault of a split's branches. -/
def nxE (n at_ : Nat) : List Int → Int
  | [] => 0
  | y :: Y => if inB y 0 ((n : Int) - 1) = false then 6 else if y ≤ at_ then 9 else nxE n at_ Y
theorem nxE_at {n at_ : Nat} {Y : List Int} {k : Nat} (hk : k < Y.length) : nxE n at_ (Y.drop k) = if inB Y[k] 0 ((n : Int) - 1) = false then 6 else if Y[k] ≤ at_ then 9 else nxE n at_ (Y.drop (k + 1)) := by
  rw [List.drop_eq_getElem_cons hk]; rfl
theorem nxE_ok {n at_ : Nat} : ∀ {Y : List Int}, nxE n at_ Y = 0 → ∀ y ∈ Y, 0 ≤ y ∧ y < n ∧ (at_ : Int) < y
  | [], _, y, hy => by cases hy
  | z :: Y, h, y, hy => by
    unfold nxE at h
    split at h
    · omega
    · rename_i h1
      split at h
      · omega
      · rename_i h2
        rcases List.mem_cons.1 hy with rfl | hy
        · have h3 := inB_iff.1 (by simpa using h1); omega
        · exact nxE_ok h y hy
/-- The fault of a node. -/
def ndE (x : Cols) (bd : Int) (T : List Nd) (at_ : Nat) (O : List Int) : Int :=
  if inB (T.getD at_ noNd).kind 0 2 = false then 15
  else if (T.getD at_ noNd).kind ≠ 0 then (if holdB x bd (T.getD at_ noNd).kind O then 0 else 22)
  else if (leftK O x.m.length).length = 0 ∨ (T.getD at_ noNd).nx.length ≠ (leftK O x.m.length).length then 10
  else nxE T.length at_ (T.getD at_ noNd).nx
/-- The first of some results that is a fault. -/
def fe (g : Nat → Int × Int) : Nat → Nat → Int × Int
  | 0, _ => (0, 0)
  | n + 1, i => if (g i).2 ≠ 0 then g i else fe g n (i + 1)
/-- The first fault of a node and all below it, with its number. -/
def chk (x : Cols) (bd : Int) (T : List Nd) : Nat → Nat → List Int → Int × Int
  | 0, at_, O => if ndE x bd T at_ O ≠ 0 then ((at_ : Int), ndE x bd T at_ O) else (0, 0)
  | f + 1, at_, O => if ndE x bd T at_ O ≠ 0 then ((at_ : Int), ndE x bd T at_ O) else if (T.getD at_ noNd).kind ≠ 0 then (0, 0)
    else fe (fun i => chk x bd T f ((T.getD at_ noNd).nx.getD i 0).toNat (O ++ [(leftK O x.m.length).getD i 0])) (leftK O x.m.length).length 0
theorem chk_err {x : Cols} {bd : Int} {T : List Nd} {f at_ : Nat} {O : List Int} (h : ndE x bd T at_ O ≠ 0) : chk x bd T f at_ O = ((at_ : Int), ndE x bd T at_ O) := by
  cases f <;> (unfold chk; rw [if_pos h])
theorem chk_leaf {x : Cols} {bd : Int} {T : List Nd} {f at_ : Nat} {O : List Int} (h : ndE x bd T at_ O = 0) (hk : (T.getD at_ noNd).kind ≠ 0) : chk x bd T f at_ O = (0, 0) := by
  cases f
  · unfold chk; rw [if_neg (by simp [h])]
  · unfold chk; rw [if_neg (by simp [h]), if_pos hk]
set_option maxRecDepth 100000 in
set_option maxHeartbeats 4000000 in
theorem refHolds_any (x : Cols) (bd kind : Int) (na : Option Addr) (nn nc : Nat) (O : List Int) (a : Option Addr) (n oc : Nat) (w : World) (hn : n = O.length) (hx : ColsAt w x) (hok : ColsOk x) (hO : RowsAt 1 intL w a O) (hol : O.length ≤ 6) (hin : ∀ y ∈ O, 0 ≤ y ∧ y < x.m.length) (hnd : O.Nodup) :
    Calls Try.prog 144 #[x.v, .int .i64 bd, .agg #[.int .i64 kind, .slice na nn nc], .slice a n oc] w (AggPost (.bool (holdB x bd kind O)) w) := by
  subst hn
  have HRM := Lib.hid (fun W h1 h2 => refOrderMinutes_any x O a O.length oc W rfl h1 hok h2 hol hin hnd)
  have HOT := Lib.hid (fun W h => refOthers_any a O O.length oc x.m.length W rfl h (by omega) (by have := hok.le; omega))
  have HMB := Lib.hid (mins_bd hok hol)
  have HRB := Lib.hid (rest_bd hok)
  have HDEF := Lib.hid (show holdB x bd kind O = if kind = 1 then !((minsE x O).2 == 0) else ((minsE x O).2 == 0) && decide (bd ≤ (minsE x O).1 + restI x O) from rfl)
  have HRI := Lib.hid (show restI x O = (leftK O x.m.length).foldl (fun s y => s + x.m.getD y.toNat 0) 0 from rfl)
  have HLI := Lib.hid (fun y h => (leftK_in O x.m.length y h).1)
  have HLL := Lib.hid (leftK_len O x.m.length)
  have HM6 := Lib.hid hok.le
  obtain ⟨HB, hHB⟩ : ∃ HB, HB = holdB x bd kind O := ⟨_, rfl⟩
  rw [← hHB] at HDEF ⊢
  have HX := Lib.hid hx; have HO := Lib.hid hO
  clear hx hok hO hol hin hnd hHB
  obtain ⟨ma, m, mc, da, T, dc⟩ := x
  show Calls _ _ #[.agg #[.slice ma m.length mc, .slice da T.length dc], .int .i64 bd, .agg #[.int .i64 kind, .slice na nn nc], .slice a O.length oc] _ _
  have HRM : Hid (∀ W, ColsAt W ⟨ma, m, mc, da, T, dc⟩ → RowsAt 1 intL W a O → Calls Try.prog 51 #[.agg #[.slice ma m.length mc, .slice da T.length dc], .slice a O.length oc] W (RMPost (minsE ⟨ma, m, mc, da, T, dc⟩ O) W)) := HRM
  have bx := (BoxAt.new w #[.slice ma m.length mc, .slice da T.length dc] 78).alloc (.cells #[.int .i64 kind, .slice na nn nc] 170)
  have by_ := BoxAt.new (w.alloc (.cells #[.slice ma m.length mc, .slice da T.length dc] 78)) #[.int .i64 kind, .slice na nn nc] 170
  have hB0 := ((Below.refl w.heap.size w).alloc (Nat.le_refl _) (.cells #[.slice ma m.length mc, .slice da T.length dc] 78)).alloc (by simp) (.cells #[.int .i64 kind, .slice na nn nc] 170)
  obtain ⟨mn, hmn⟩ : ∃ mn, mn = (minsE ⟨ma, m, mc, da, T, dc⟩ O).1 := ⟨_, rfl⟩
  obtain ⟨er, her⟩ : ∃ er, er = (minsE ⟨ma, m, mc, da, T, dc⟩ O).2 := ⟨_, rfl⟩
  have HP := Lib.hid (show minsE ⟨ma, m, mc, da, T, dc⟩ O = (mn, er) by rw [hmn, her])
  rw [HP.out] at HRM HMB HDEF
  dsimp only at HMB HDEF
  clear hmn her
  go_enter Try.func144, Try.ntmps144
  go_upto_region 1 with fail
  obtain ⟨w0, hw0⟩ : ∃ w0, w0 = (w.alloc (.cells #[.slice ma m.length mc, .slice da T.length dc] 78)).alloc (.cells #[.int .i64 kind, .slice na nn nc] 170) := ⟨_, rfl⟩
  rw [show (w.alloc (.cells #[.slice ma m.length mc, .slice da T.length dc] 78)).heap.size = w.heap.size + 1 by simp] at by_
  rw [← hw0] at bx by_ hB0 ⊢
  clear hw0
  have k0 : w0.cell? ⟨w.heap.size, 0, none⟩ = some (.slice ma m.length mc) := bx.cell 0
  have k1 : w0.cell? ⟨w.heap.size, 1, none⟩ = some (.slice da T.length dc) := bx.cell 1
  have BX := Lib.hid bx; have BY := Lib.hid by_; have HB0 := Lib.hid hB0
  clear bx by_ hB0
  by_cases h1 : kind = 1
  · subst h1
    have HE := Lib.hid (show HB = !(er == 0) by rw [HDEF.out, if_pos rfl])
    go_wp2_with (go_at_call 51; refine (HRM.out _ (HX.out.below HB0.out) (HO.out.below HB0.out)).mono ?_; rintro e w8 ⟨rfl, hb8⟩; have c0 : w8.cell? ⟨w.heap.size + 1, 0, none⟩ = some (.int .i64 1) := (BY.out.below hb8).cell 0; have HB8 := Lib.hid (HB0.out.trans (hb8.mono HB0.out.size)); clear hb8)
    go_ret
    exact ⟨by rw [HE.out]; rfl, HB8.out⟩
  · have h1' : (kind == 1) = false := by simpa using h1
    have HE := Lib.hid (show HB = ((er == 0) && decide (bd ≤ mn + restI ⟨ma, m, mc, da, T, dc⟩ O)) by rw [HDEF.out, if_neg h1])
    clear h1
    go_wp2_with (first
      | (go_at_call 51; refine (HRM.out _ (HX.out.below HB0.out) (HO.out.below HB0.out)).mono ?_; rintro e w8 ⟨rfl, hb8⟩; have c0 : w8.cell? ⟨w.heap.size + 1, 0, none⟩ = some (.int .i64 kind) := (BY.out.below hb8).cell 0; have d0 : w8.cell? ⟨w.heap.size, 0, none⟩ = some (.slice ma m.length mc) := (BX.out.below hb8).cell 0; have BX8 := Lib.hid (BX.out.below hb8); have HB8 := Lib.hid (HB0.out.trans (hb8.mono HB0.out.size)); clear hb8)
      | (go_at_call 143; refine (HOT.out _ (HO.out.below HB8.out)).mono ?_; rintro e w9 ⟨v9, rfl, hO9, hb9⟩; obtain ⟨a9, c9, e9, hr9, -⟩ := hO9.rows int_l; subst e9; have HR9 := Lib.hid hr9; have BX9 := Lib.hid (BX8.out.below hb9); have HB9 := Lib.hid (HB8.out.trans (hb9.mono HB8.out.size)); clear hO9 hr9 hb9))
    have HLI : Hid (∀ y, y ∈ leftK O m.length → 0 ≤ y ∧ y < m.length) := HLI
    have HLL : Hid ((leftK O m.length).length ≤ m.length) := HLL
    have HM6 : Hid (m.length ≤ 6) := HM6
    have HRI : Hid (restI ⟨ma, m, mc, da, T, dc⟩ O = (leftK O m.length).foldl (fun s y => s + m.getD y.toNat 0) 0) := HRI
    have HRB : Hid (∀ (L : List Int) (z : Int), z ≤ L.foldl (fun s y => s + m.getD y.toNat 0) z ∧ L.foldl (fun s y => s + m.getD y.toNat 0) z ≤ z + 10000 * L.length) := HRB
    obtain ⟨Lf, hLf⟩ : ∃ Lf, Lf = leftK O m.length := ⟨_, rfl⟩
    rw [← hLf] at HLI HLL HRI HR9 ⊢
    have hl6 : Lf.length ≤ 6 := Nat.le_trans HLL.out HM6.out
    clear hLf
    obtain ⟨wo, hwo⟩ : ∃ wo, wo = w9 := ⟨_, rfl⟩
    rw [← hwo] at HR9 BX9 HB9 ⊢
    clear hwo
    go_loopw [9, 12] (fun q i wr => ∃ k : Nat, k ≤ Lf.length ∧ i = .int .i64 k ∧ q = .int .i64 ((Lf.take k).foldl (fun s y => s + m.getD y.toNat 0) mn) ∧ Drew wo wr) (fun _ i _ => Lf.length - (intOf i).toNat)
    case atStart => exact ⟨0, Nat.zero_le _, rfl, rfl, Drew.refl _⟩
    case round =>
      obtain ⟨k, hk, rfl, rfl, hdr⟩ := hrel
      by_cases hlt : k < Lf.length
      · obtain ⟨ad, rfl, had, s0⟩ := (hdr.rows HR9.out).int hlt
        have hy := HLI.out _ (List.getElem_mem hlt)
        have HST := Lib.hid (fold_step (f := fun s y => s + m.getD y.toNat 0) (b := mn) hlt)
        have hq := HRB.out (Lf.take k) mn
        have hq9 : ((Lf.take k).length : Int) ≤ 6 := by rw [List.length_take]; omega
        obtain ⟨q, hqe⟩ : ∃ q, q = (Lf.take k).foldl (fun s y => s + m.getD y.toNat 0) mn := ⟨_, rfl⟩
        rw [← hqe] at hq HST ⊢
        obtain ⟨y, ey⟩ : ∃ y, y = Lf[k] := ⟨_, rfl⟩
        rw [← ey] at s0 hy HST
        obtain ⟨cN, rfl⟩ : ∃ cN : Nat, y = cN := ⟨y.toNat, by omega⟩
        have hcm : cN < m.length := by omega
        have hcm' : (cN : Int) < (m.length : Int) := by omega
        have hk' : (k : Int) < (Lf.length : Int) := by omega
        obtain ⟨mad, ema, hmad, s1⟩ := (show RowsAt 1 intL wr ma m from ((HX.out.below HB9.out).mins.below (by obtain ⟨n9, rfl⟩ := hdr; exact below_drewN (Below.refl _ _) _))).int hcm
        have ema : ma = some mad := ema
        subst ema
        have HMD := Lib.hid (show m.getD ((cN : Int)).toNat 0 = m[cN] by rw [show ((cN : Int)).toNat = cN by omega, getD_eqI hcm])
        have hmb := (HRB.out [(cN : Int)] 0)
        have hmb : 0 ≤ 0 + m.getD ((cN : Int)).toNat 0 ∧ 0 + m.getD ((cN : Int)).toNat 0 ≤ 0 + 10000 * 1 := hmb
        rw [HMD.out] at hmb
        obtain ⟨mv, hmv⟩ : ∃ mv, mv = m[cN] := ⟨_, rfl⟩
        rw [← hmv] at s1 HMD hmb
        have d9 : wr.cell? ⟨w.heap.size, 0, none⟩ = some (.slice (some mad) m.length mc) := hdr.cell (BX9.out.cell 0)
        have hmn := HMB.out
        have hw2 : IntKind.i64.wrap (q + mv) = q + mv := IntWalk.i64_in _ (by omega)
        have HS2 : Hid ((Lf.take (k + 1)).foldl (fun s y => s + m.getD y.toNat 0) mn = q + mv) := Lib.hid (by rw [HST.out]; show q + m.getD ((cN : Int)).toNat 0 = _; rw [HMD.out])
        clear ey hmv hy hqe
        go_wp2_with fail
        (try go_quiet (fail))
        (try go_wp2)
        go_roundw
        case rel => exact ⟨k + 1, by omega, by go_num, by rw [HS2.out], by first | exact hdr.drewN _ | exact hdr⟩
        case measure => simp [intOf] <;> omega
      · obtain rfl : k = Lf.length := by omega
        rw [List.take_length]
        have HQ := Lib.hid (show Lf.foldl (fun s y => s + m.getD y.toNat 0) mn = mn + restI ⟨ma, m, mc, da, T, dc⟩ O by rw [HRI.out]; exact fold_from (fun y : Int => m.getD y.toNat 0) Lf mn)
        rw [HQ.out]
        obtain ⟨q, hq⟩ : ∃ q, q = mn + restI ⟨ma, m, mc, da, T, dc⟩ O := ⟨_, rfl⟩
        rw [← hq]
        have HBX := Lib.hid (hdr.below HB9.out)
        have HE2 := Lib.hid (show HB = ((er == 0) && decide (bd ≤ q)) by rw [HE.out, hq])
        clear hq hlt
        cases h3 : (er == 0)
        · go_wp2
          go_ret
          exact ⟨by rw [HE2.out, h3]; rfl, HBX.out⟩
        · go_wp2
          go_ret
          exact ⟨by rw [HE2.out, h3, Bool.true_and]; rfl, HBX.out⟩
end Go.Proofs.Ytpplcbpnojggcaa

namespace Go.Proofs.Ytpplcbpnojggcaa
open Go.RowKit Go.Maps Go.Shelf

theorem fe_stop {g : Nat → Int × Int} {n i : Nat} (h : (g i).2 ≠ 0) : fe g (n + 1) i = g i := by
  show (if _ then _ else _) = _; rw [if_pos h]
theorem fe_go {g : Nat → Int × Int} {n i : Nat} (h : (g i).2 = 0) : fe g (n + 1) i = fe g n (i + 1) := by
  show (if _ then _ else _) = _; rw [if_neg (by simp [h])]
theorem left_more {O : List Int} {n : Nat} {y : Int} (h : y ∈ leftK O n) : (leftK (O ++ [y]) n).length + 1 = (leftK O n).length := by
  obtain ⟨⟨h1, h2⟩, h3⟩ := leftK_in O n y h
  obtain ⟨c, rfl⟩ : ∃ c : Nat, y = c := ⟨y.toNat, by omega⟩
  have h4 := leftK_more O c h3 n
  rw [if_pos (by omega)] at h4
  exact h4
set_option maxRecDepth 100000 in
set_option maxHeartbeats 8000000 in
/-- One step of the walk: the walk of the branches is given. -/
theorem walk_one (x : Cols) (bd : Int) (T : List Nd) (ta : Option Addr) (tc : Nat) (hok : ColsOk x) (hTl : T.length ≤ 3000) (hnl : ∀ z ∈ T, z.nx.length ≤ maxLen) (f : Nat) (O : List Int) (at_ : Nat) (a : Option Addr) (n c : Nat) (w : World) (hn : n = O.length) (hf : (leftK O x.m.length).length = f) (hof : O.length + f ≤ 6) (hnd : O.Nodup) (hin : ∀ y ∈ O, 0 ≤ y ∧ y < x.m.length) (hat : at_ < T.length) (hT : NodesAt w ta T) (hx : ColsAt w x) (hO : RowsAt 1 intL w a O) (hd : a = none → c = 0)
    (ih : ∀ y ∈ leftK O x.m.length, ∀ (z : Nat) (a2 : Option Addr) (m2 c2 : Nat) (W : World), m2 = (O ++ [y]).length → z < T.length → NodesAt W ta T → ColsAt W x → RowsAt 1 intL W a2 (O ++ [y]) → (a2 = none → c2 = 0) →
      Calls Try.prog 117 #[x.v, .int .i64 bd, .slice ta T.length tc, .int .i64 z, .slice a2 m2 c2] W (TwoPost (chk x bd T (f - 1) z (O ++ [y])) W)) :
    Calls Try.prog 117 #[x.v, .int .i64 bd, .slice ta T.length tc, .int .i64 at_, .slice a n c] w (TwoPost (chk x bd T f at_ O) w) := by
  subst hn
  have HC := Lib.hid (fun W h => copyInts_any a O O.length c W rfl h (by omega) hd)
  have HOT := Lib.hid (fun W h => refOthers_any a O O.length c x.m.length W rfl h (by omega) (by have := hok.le; omega))
  have HLD := Lib.hid (fun na nn nc kind W h1 h2 => refHolds_any x bd kind na nn nc O a O.length c W rfl h1 hok h2 (by omega) hin hnd)
  have HER := Lib.hid (fun h => chk_err (x := x) (bd := bd) (T := T) (f := f) (at_ := at_) (O := O) h)
  have HLF := Lib.hid (fun h h2 => chk_leaf (x := x) (bd := bd) (T := T) (f := f) (at_ := at_) (O := O) h h2)
  have HSP : Hid (∀ f', f = f' + 1 → ndE x bd T at_ O = 0 → (T.getD at_ noNd).kind = 0 → chk x bd T f at_ O = fe (fun i => chk x bd T f' ((T.getD at_ noNd).nx.getD i 0).toNat (O ++ [(leftK O x.m.length).getD i 0])) (leftK O x.m.length).length 0) := Lib.hid (fun f' hf' h1 h2 => by
    subst hf'
    show (if _ then _ else _) = _
    rw [if_neg (fun h => h h1), if_neg (fun h => h h2)])
  have HND := Lib.hid (show ndE x bd T at_ O = if inB (T.getD at_ noNd).kind 0 2 = false then 15 else if (T.getD at_ noNd).kind ≠ 0 then (if holdB x bd (T.getD at_ noNd).kind O then 0 else 22) else if (leftK O x.m.length).length = 0 ∨ (T.getD at_ noNd).nx.length ≠ (leftK O x.m.length).length then 10 else nxE T.length at_ (T.getD at_ noNd).nx from rfl)
  have HX := Lib.hid hx; have HO := Lib.hid hO; have HT := Lib.hid hT; have HFL := Lib.hid hf; have HOF := Lib.hid hof
  have HIH := Lib.hid ih
  have HNL := Lib.hid (hnl _ (List.getElem_mem hat))
  obtain ⟨ad, rfl, had, s0, s1⟩ := hT.node hat
  rw [nd_getD hat] at HND HSP HLF
  have HNX := Lib.hid (hT.nxt _ (List.getElem_mem hat))
  obtain ⟨z, ez⟩ : ∃ z, z = T[at_] := ⟨_, rfl⟩
  rw [← ez] at HND HSP HLF HNX HNL s0 s1
  obtain ⟨kd, na, nx, nc⟩ := z
  dsimp only at HND HSP HLF HNX HNL s0 s1
  obtain ⟨R, hR⟩ : ∃ R, R = chk x bd T f at_ O := ⟨_, rfl⟩
  rw [← hR] at HER HLF HSP ⊢
  obtain ⟨NE, hNE⟩ : ∃ NE, NE = ndE x bd T at_ O := ⟨_, rfl⟩
  rw [← hNE] at HER HLF HSP HND
  have hatl : (at_ : Int) < (T.length : Int) := by omega
  have hb4 : O.length ≤ 6 := by omega
  have HTL := Lib.hid hTl
  clear hok hnl hf hof hnd hin hT hx hO hd ih ez hR hNE hat
  obtain ⟨ma, m, mc, da, TT, dc⟩ := x
  show Calls _ _ #[.agg #[.slice ma m.length mc, .slice da TT.length dc], .int .i64 bd, .slice (some ad) T.length tc, .int .i64 at_, .slice a O.length c] _ _
  have HLD : Hid (∀ (na : Option Addr) (nn nc : Nat) (kind : Int) (W : World), ColsAt W ⟨ma, m, mc, da, TT, dc⟩ → RowsAt 1 intL W a O → Calls Try.prog 144 #[.agg #[.slice ma m.length mc, .slice da TT.length dc], .int .i64 bd, .agg #[.int .i64 kind, .slice na nn nc], .slice a O.length c] W (AggPost (.bool (holdB ⟨ma, m, mc, da, TT, dc⟩ bd kind O)) W)) := HLD
  have HIH : Hid (∀ y ∈ leftK O m.length, ∀ (z : Nat) (a2 : Option Addr) (m2 c2 : Nat) (W : World), m2 = (O ++ [y]).length → z < T.length → NodesAt W (some ad) T → ColsAt W ⟨ma, m, mc, da, TT, dc⟩ → RowsAt 1 intL W a2 (O ++ [y]) → (a2 = none → c2 = 0) →
      Calls Try.prog 117 #[.agg #[.slice ma m.length mc, .slice da TT.length dc], .int .i64 bd, .slice (some ad) T.length tc, .int .i64 z, .slice a2 m2 c2] W (TwoPost (chk ⟨ma, m, mc, da, TT, dc⟩ bd T (f - 1) z (O ++ [y])) W)) := HIH
  have bx := BoxAt.new w #[.slice ma m.length mc, .slice da TT.length dc] 78
  have s0' : (w.alloc (.cells #[.slice ma m.length mc, .slice da TT.length dc] 78)).cell? (ad.add (at_ * 2)) = some (.int .i64 kd) := (((Below.refl w.heap.size w).alloc (Nat.le_refl _) _).cell had).trans s0
  have s1' : (w.alloc (.cells #[.slice ma m.length mc, .slice da TT.length dc] 78)).cell? ⟨(ad.add (at_ * 2)).block, (ad.add (at_ * 2)).off + 1, none⟩ = some (.slice na nx.length nc) := by rw [World.cell?_alloc_past _ _ _ had]; exact s1
  have hB0 := (Below.refl w.heap.size w).alloc (Nat.le_refl _) (.cells #[.slice ma m.length mc, .slice da TT.length dc] 78)
  go_enter Try.func117, Try.ntmps117
  go_upto_region 1 with fail
  obtain ⟨w0, hw0⟩ : ∃ w0, w0 = w.alloc (.cells #[.slice ma m.length mc, .slice da TT.length dc] 78) := ⟨_, rfl⟩
  have hz0 : w0.heap.size = w.heap.size + 1 := by rw [hw0]; simp
  have HZ0 := Lib.hid hz0
  rw [← hw0] at bx s0' s1' hB0 ⊢
  clear hw0 s0 s1 hz0
  have by_ := BoxAt.new w0 #[.int .i64 kd, .slice na nx.length nc] 170
  have bx1 := bx.alloc (.cells #[.int .i64 kd, .slice na nx.length nc] 170)
  have hB1 := hB0.alloc hB0.size (.cells #[.int .i64 kd, .slice na nx.length nc] 170)
  go_upto_region 2 with fail
  obtain ⟨w1, hw1⟩ : ∃ w1, w1 = w0.alloc (.cells #[.int .i64 kd, .slice na nx.length nc] 170) := ⟨_, rfl⟩
  have HZ1 := Lib.hid (show w1.heap.size = w0.heap.size + 1 by rw [hw1]; simp)
  rw [← hw1] at by_ bx1 hB1 ⊢
  clear hw1 s0' s1' hB0 bx
  have BX := Lib.hid bx1; have BY := Lib.hid by_; have HB1 := Lib.hid hB1
  have c0 : w1.cell? ⟨w0.heap.size, 0, none⟩ = some (.int .i64 kd) := by_.cell 0
  have c1 : w1.cell? ⟨w0.heap.size, 1, none⟩ = some (.slice na nx.length nc) := by_.cell 1
  have k0 : w1.cell? ⟨w.heap.size, 0, none⟩ = some (.slice ma m.length mc) := bx1.cell 0
  have k1 : w1.cell? ⟨w.heap.size, 1, none⟩ = some (.slice da TT.length dc) := bx1.cell 1
  clear bx1 by_ hB1
  cases h1 : inB kd 0 2
  · have HE := Lib.hid (show R = ((at_ : Int), 15) by
      have h9 : NE = 15 := by rw [HND.out, if_pos h1]
      rw [HER.out (by rw [h9]; decide), h9])
    have H1 := Lib.hid h1
    go_wp2_with (go_at_call 30; refine (within_any _ _ _ _).mono ?_; rintro e w' ⟨rfl, rfl⟩; rw [H1.out])
    go_ret2
    exact ⟨two_to HE.out, HB1.out⟩
  have H1 := Lib.hid h1
  by_cases h2 : kd = 0
  rotate_left
  · have h2' : (kd != 0) = true := by simpa using h2
    have HLD2 := Lib.hid (fun W h8 h9 => HLD.out na nx.length nc kd W h8 h9)
    cases h3 : holdB ⟨ma, m, mc, da, TT, dc⟩ bd kd O
    · have HE := Lib.hid (show R = ((at_ : Int), 22) by
        have h9 : NE = 22 := by rw [HND.out, if_neg (by rw [h1]; decide), if_pos h2, h3]; rfl
        rw [HER.out (by rw [h9]; decide), h9])
      rw [h3] at HLD2
      clear h1 h2
      go_wp2_with (first
        | (go_at_call 30; refine (within_any _ _ _ _).mono ?_; rintro e w' ⟨rfl, rfl⟩; rw [H1.out])
        | (go_at_call 144; refine (HLD2.out _ (HX.out.below HB1.out) (HO.out.below HB1.out)).mono ?_; rintro e w2 ⟨rfl, hb2⟩; have HB2 := Lib.hid (HB1.out.trans (hb2.mono HB1.out.size)); clear hb2))
      go_ret2
      exact ⟨two_to HE.out, HB2.out⟩
    · have HE := Lib.hid (show R = (0, 0) by
        have h9 : NE = 0 := by rw [HND.out, if_neg (by rw [h1]; decide), if_pos h2, h3]; rfl
        exact HLF.out h9 h2)
      rw [h3] at HLD2
      clear h1 h2
      go_wp2_with (first
        | (go_at_call 30; refine (within_any _ _ _ _).mono ?_; rintro e w' ⟨rfl, rfl⟩; rw [H1.out])
        | (go_at_call 144; refine (HLD2.out _ (HX.out.below HB1.out) (HO.out.below HB1.out)).mono ?_; rintro e w2 ⟨rfl, hb2⟩; have HB2 := Lib.hid (HB1.out.trans (hb2.mono HB1.out.size)); clear hb2))
      go_ret2
      exact ⟨two_to HE.out, HB2.out⟩
  · subst h2
    have HND2 := Lib.hid (show NE = if (leftK O m.length).length = 0 ∨ nx.length ≠ (leftK O m.length).length then 10 else nxE T.length at_ nx by rw [HND.out, if_neg (by rw [h1]; decide), if_neg (by simp)])
    have HSP2 : Hid (∀ f', f = f' + 1 → NE = 0 → R = fe (fun i => chk ⟨ma, m, mc, da, TT, dc⟩ bd T f' (nx.getD i 0).toNat (O ++ [(leftK O m.length).getD i 0])) (leftK O m.length).length 0) := Lib.hid (fun f' h8 h9 => HSP.out f' h8 h9 rfl)
    have HFL2 : Hid ((leftK O m.length).length = f) := HFL
    have HOT2 : Hid (∀ W, RowsAt 1 intL W a O → Calls Try.prog 143 #[.slice a O.length c, .int .i64 m.length] W (LeftPost W (leftK O m.length))) := HOT
    clear HFL HOT
    obtain ⟨Lf, hLf⟩ : ∃ Lf, Lf = leftK O m.length := ⟨_, rfl⟩
    rw [← hLf] at HND2 HSP2 HFL2 HOT2 HIH
    clear hLf h1
    by_cases h3 : Lf.length = 0
    · have HE := Lib.hid (show R = ((at_ : Int), 10) by
        have h9 : NE = 10 := by rw [HND2.out, if_pos (Or.inl h3)]
        rw [HER.out (by rw [h9]; decide), h9])
      go_wp2_with (first
        | (go_at_call 30; refine (within_any _ _ _ _).mono ?_; rintro e w' ⟨rfl, rfl⟩; rw [H1.out])
        | (go_at_call 143; refine (HOT2.out _ (HO.out.below HB1.out)).mono ?_; rintro e w2 ⟨v2, rfl, hO2, hb2⟩; obtain ⟨a2, c2, e2, -⟩ := hO2.rows int_l; subst e2; rw [h3]; have HB2 := Lib.hid (HB1.out.trans (hb2.mono HB1.out.size)); clear hb2 hO2))
      go_ret2
      exact ⟨two_to HE.out, HB2.out⟩
    have h3' : ((Lf.length : Int) == 0) = false := by simpa using h3
    by_cases h4 : nx.length = Lf.length
    rotate_left
    · have HE := Lib.hid (show R = ((at_ : Int), 10) by
        have h9 : NE = 10 := by rw [HND2.out, if_pos (Or.inr h4)]
        rw [HER.out (by rw [h9]; decide), h9])
      have h4' : ((nx.length : Int) != (Lf.length : Int)) = true := by simp; omega
      clear h3 h4
      go_wp2_with (first
        | (go_at_call 30; refine (within_any _ _ _ _).mono ?_; rintro e w' ⟨rfl, rfl⟩; rw [H1.out])
        | (go_at_call 143; refine (HOT2.out _ (HO.out.below HB1.out)).mono ?_; rintro e w2 ⟨v2, rfl, hO2, hb2⟩; obtain ⟨a2, c2, e2, -⟩ := hO2.rows int_l; subst e2; have d1 : w2.cell? ⟨w0.heap.size, 1, none⟩ = some (.slice na nx.length nc) := (BY.out.below hb2).cell 1; have HB2 := Lib.hid (HB1.out.trans (hb2.mono HB1.out.size)); clear hb2 hO2))
      go_ret2
      exact ⟨two_to HE.out, HB2.out⟩
    have HND3 := Lib.hid (show NE = nxE T.length at_ nx by rw [HND2.out, if_neg (by rintro (h | h); exact h3 h; exact h h4)])
    have h4' : ((nx.length : Int) != (Lf.length : Int)) = false := by simp; omega
    have HNL4 := Lib.hid h4
    have hlf6 : Lf.length ≤ 6 := by have h8 := HFL2.out; have h9 := HOF.out; omega
    clear h3 h4
    go_wp2_with (first
      | (go_at_call 30; refine (within_any _ _ _ _).mono ?_; rintro e w' ⟨rfl, rfl⟩; rw [H1.out])
      | (go_at_call 143; refine (HOT2.out _ (HO.out.below HB1.out)).mono ?_; rintro e w2 ⟨v2, rfl, hO2, hb2⟩; obtain ⟨a2, c2, e2, hr2, -⟩ := hO2.rows int_l; subst e2; have d1 : w2.cell? ⟨w0.heap.size, 1, none⟩ = some (.slice na nx.length nc) := (BY.out.below hb2).cell 1; have BX2 := Lib.hid (BX.out.below hb2); have BY2 := Lib.hid (BY.out.below hb2); have HR2 := Lib.hid hr2; have HB2 := Lib.hid (HB1.out.trans (hb2.mono HB1.out.size)); clear hb2 hO2 hr2))
    have HNX2 := Lib.hid (HNX.out.below HB2.out)
    have hwT : IntKind.i64.wrap ((T.length : Int) - 1) = (T.length : Int) - 1 := IntWalk.i64_in _ (by omega)
    go_loop [14] (fun i => ∃ k : Nat, k ≤ Lf.length ∧ i = .int .i64 k ∧ Hid (nxE T.length at_ nx = nxE T.length at_ (nx.drop k))) (fun i => Lf.length - (intOf i).toNat)
    case atStart => exact ⟨0, Nat.zero_le _, rfl, Lib.hid rfl⟩
    case round =>
      obtain ⟨k, hk, rfl, HQ⟩ := hrel
      by_cases hlt : k < Lf.length
      · have hkn : k < nx.length := by have := HNL4.out; omega
        obtain ⟨nad, ena, hnad, n0⟩ := HNX2.out.int hkn
        have ena : na = some nad := ena
        subst ena
        have HST := Lib.hid (nxE_at (n := T.length) (at_ := at_) hkn)
        obtain ⟨y, hy⟩ : ∃ y, y = nx[k] := ⟨_, rfl⟩
        rw [← hy] at n0 HST
        have hkl : (k : Int) < (Lf.length : Int) := by omega
        have hkn' : (k : Int) < (nx.length : Int) := by omega
        clear hy
        cases h5 : inB y 0 ((T.length : Int) - 1)
        · have HE := Lib.hid (show R = ((at_ : Int), 6) by
            have h9 : NE = 6 := by rw [HND3.out, HQ.out, HST.out, if_pos h5]
            rw [HER.out (by rw [h9]; decide), h9])
          have H5 := Lib.hid h5
          go_wp2_with (go_at_call 30; refine (within_any _ _ _ _).mono ?_; rintro e w' ⟨rfl, rfl⟩; rw [H5.out])
          go_ret2
          exact ⟨two_to HE.out, HB2.out⟩
        · have H5 := Lib.hid h5
          by_cases h6 : y ≤ at_
          · have HE := Lib.hid (show R = ((at_ : Int), 9) by
              have h9 : NE = 9 := by rw [HND3.out, HQ.out, HST.out, if_neg (by rw [h5]; decide), if_pos h6]
              rw [HER.out (by rw [h9]; decide), h9])
            clear h5
            go_wp2_with (go_at_call 30; refine (within_any _ _ _ _).mono ?_; rintro e w' ⟨rfl, rfl⟩; rw [H5.out])
            go_ret2
            exact ⟨two_to HE.out, HB2.out⟩
          · have HQ2 := Lib.hid (show nxE T.length at_ nx = nxE T.length at_ (nx.drop (k + 1)) by rw [HQ.out, HST.out, if_neg (by rw [h5]; decide), if_neg h6])
            clear h5
            go_wp2_with (go_at_call 30; refine (within_any _ _ _ _).mono ?_; rintro e w' ⟨rfl, rfl⟩; rw [H5.out])
            go_round
            case rel => exact ⟨k + 1, by omega, by go_num, HQ2⟩
            case measure => simp [intOf]; omega
      · obtain rfl : k = Lf.length := by omega
        have HNE0 := Lib.hid (show nxE T.length at_ nx = 0 by rw [HQ.out, List.drop_of_length_le (by have := HNL4.out; omega)]; rfl)
        have HNO := Lib.hid (nxE_ok HNE0.out)
        obtain ⟨f', hf'⟩ : ∃ f', f = f' + 1 := ⟨f - 1, by
          have := HFL2.out
          have h9 : Lf.length ≠ 0 := by simpa using h3'
          omega⟩
        have HR0 := Lib.hid (HSP2.out f' hf' (by rw [HND3.out, HNE0.out]))
        have HIH2 : Hid (∀ y ∈ Lf, ∀ (z : Nat) (a2 : Option Addr) (m2 c2 : Nat) (W : World), m2 = (O ++ [y]).length → z < T.length → NodesAt W (some ad) T → ColsAt W ⟨ma, m, mc, da, TT, dc⟩ → RowsAt 1 intL W a2 (O ++ [y]) → (a2 = none → c2 = 0) →
            Calls Try.prog 117 #[.agg #[.slice ma m.length mc, .slice da TT.length dc], .int .i64 bd, .slice (some ad) T.length tc, .int .i64 z, .slice a2 m2 c2] W (TwoPost (chk ⟨ma, m, mc, da, TT, dc⟩ bd T f' z (O ++ [y])) W)) := Lib.hid (by have h := HIH.out; rw [hf'] at h; exact h)
        clear HIH HQ hlt hf'
        obtain ⟨g, hg⟩ : ∃ g : Nat → Int × Int, g = fun i => chk ⟨ma, m, mc, da, TT, dc⟩ bd T f' (nx.getD i 0).toNat (O ++ [Lf.getD i 0]) := ⟨_, rfl⟩
        have HG := Lib.hid hg
        rw [← hg] at HR0
        clear hg
        go_wp2_with fail
        go_loopw [15] (fun i wr => ∃ k : Nat, k ≤ Lf.length ∧ i = .int .i64 k ∧ Hid (R = fe g (Lf.length - k) k) ∧ Below w2.heap.size w2 wr) (fun i _ => Lf.length - (intOf i).toNat)
        case atStart => exact ⟨0, Nat.zero_le _, rfl, Lib.hid HR0.out, Below.refl _ _⟩
        case round =>
          obtain ⟨k, hk, rfl, HQ, hB⟩ := hrel
          have HBW := Lib.hid (HB2.out.trans (hB.mono HB2.out.size))
          by_cases hlt : k < Lf.length
          · have hkn : k < nx.length := by have := HNL4.out; omega
            obtain ⟨nad, ena, hnad, n0⟩ := (HNX.out.below HBW.out).int hkn
            have ena : na = some nad := ena
            subst ena
            obtain ⟨lad, rfl, hlad, l0⟩ := (HR2.out.below hB).int hlt
            have hyn := HNO.out _ (List.getElem_mem hkn)
            have HYM := Lib.hid (List.getElem_mem hlt)
            have HGK := Lib.hid (show g k = chk ⟨ma, m, mc, da, TT, dc⟩ bd T f' nx[k].toNat (O ++ [Lf[k]]) by rw [HG.out]; dsimp only; rw [getD_eqI hkn, getD_eqI hlt])
            obtain ⟨y, ey⟩ : ∃ y, y = Lf[k] := ⟨_, rfl⟩
            rw [← ey] at l0 HYM HGK
            obtain ⟨zi, ez⟩ : ∃ zi, zi = nx[k] := ⟨_, rfl⟩
            rw [← ez] at n0 hyn HGK
            obtain ⟨z, rfl⟩ : ∃ z : Nat, zi = z := ⟨zi.toNat, by omega⟩
            have hzl : z < T.length := by omega
            rw [show ((z : Int)).toNat = z by omega] at HGK
            have HFE := Lib.hid (show fe g (Lf.length - k) k = if (g k).2 ≠ 0 then g k else fe g (Lf.length - (k + 1)) (k + 1) by rw [show Lf.length - k = (Lf.length - (k + 1)) + 1 by omega]; rfl)
            have bx3 := BX2.out.below hB; have by3 := BY2.out.below hB
            have d0 : wr.cell? ⟨w.heap.size, 0, none⟩ = some (.slice ma m.length mc) := bx3.cell 0
            have d2 : wr.cell? ⟨w.heap.size, 1, none⟩ = some (.slice da TT.length dc) := bx3.cell 1
            have d1 : wr.cell? ⟨w0.heap.size, 1, none⟩ = some (.slice (some nad) nx.length nc) := by3.cell 1
            have hbl := bx3.lt; have hyl := by3.lt
            have hkl : (k : Int) < (Lf.length : Int) := by omega
            have hkn' : (k : Int) < (nx.length : Int) := by omega
            have hladb : (lad.add k).block < wr.heap.size := by rw [add_block]; exact hlad
            have hnadb : (nad.add k).block < wr.heap.size := by rw [add_block]; exact hnad
            have HIH3 := Lib.hid (fun a2 m2 c2 W h2 hT2 hx2 hO2 hd2 => HIH2.out y HYM.out z a2 m2 c2 W h2 hzl hT2 hx2 hO2 hd2)
            obtain ⟨pp, hpp⟩ : ∃ pp, pp = chk ⟨ma, m, mc, da, TT, dc⟩ bd T f' z (O ++ [y]) := ⟨_, rfl⟩
            rw [← hpp] at HIH3 HGK
            obtain ⟨p1, p2⟩ := pp
            rw [HGK.out] at HFE
            dsimp only at HFE
            have HOW := Lib.hid (HO.out.below HBW.out)
            have N0 := Lib.hid n0; have L0 := Lib.hid l0; have D0 := Lib.hid d0; have D1 := Lib.hid d1; have D2 := Lib.hid d2
            have HB := Lib.hid hB
            clear ey ez hyn bx3 by3 hpp hB
            go_wp2_with fail
            have j0 := d0; have j1 := d2; have j2 := d1; have j3 := n0; have j4 := l0
            go_region_held3 (fun w' => w'.cell? ⟨w.heap.size, 0, none⟩ = some (.slice ma m.length mc) ∧ w'.cell? ⟨w.heap.size, 1, none⟩ = some (.slice da TT.length dc) ∧ w'.cell? ⟨w0.heap.size, 1, none⟩ = some (.slice (some nad) nx.length nc) ∧ w'.cell? (nad.add k) = some (.int .i64 z) ∧ w'.cell? (lad.add k) = some (.int .i64 y)) (first | exact ⟨j0, j1, j2, j3, j4⟩ | go_keep)
              (first
                | (go_at_call 47; refine Calls.mono (HC.out _ (by first | exact HOW.out.drew | exact HOW.out.drew.alloc _ | exact (HOW.out.alloc _).drew)) ?_; rintro e w3 ⟨v3, rfl, hO3, hb3⟩; obtain ⟨a3, c3, e3, -⟩ := hO3.rows int_l; subst e3; have HB3 : Hid (Below wr.heap.size wr w3) := Lib.hid (by first | exact (Below.refl _ wr).drew.trans hb3 | exact ((Below.refl _ wr).drew.alloc (Nat.le_refl _) _).trans (hb3.mono (by simp)) | exact ((Below.refl _ wr).alloc (Nat.le_refl _) _).drew.trans (hb3.mono (by simp))); have HO3 : Hid (OwnR 1 3 intL w3 wr.heap.size (.slice a3 O.length c3) O) := Lib.hid (hO3.mono (by first | exact Nat.le_refl _ | simp)); (try have HM3 : Hid (RowsAt 1 intL w3 (some ⟨wr.heap.size, 0, none⟩) [y]) := Lib.hid (by first | exact ((IBox.lit wr.drew [y] _ rfl).below hb3).rows | exact (((IBox.lit wr [y] _ rfl).drew).below hb3).rows)); have j0 := (HB3.out.cell (p := ⟨w.heap.size, 0, none⟩) hbl).trans D0.out; have j1 := (HB3.out.cell (p := ⟨w.heap.size, 1, none⟩) hbl).trans D2.out; have j2 := (HB3.out.cell (p := ⟨w0.heap.size, 1, none⟩) hyl).trans D1.out; have j3 := (HB3.out.cell hnadb).trans N0.out; have j4 := (HB3.out.cell hladb).trans L0.out; clear hO3 hb3)
                | (refine step_appL tInt int_l _ (by rfl) _ _ (by rfl) wr.heap.size _ O (by rfl) (by first | exact HO3.out | exact HO3.out.alloc _) _ [y] 1 1 rfl (by rfl) (by first | exact (IBox.lit w3 [y] _ rfl).rows | exact (HM3.out)) (fun e => by cases e) (by omega) (by simp) (by first | exact HB3.out.size | (have := HB3.out.size; simp; omega)) ?_; intro v4 w4 hO4 hg4 hB4 hor4; obtain ⟨a4, c4, e4, hr4, -, -, hn4, -⟩ := hO4.rows int_l; subst e4; have HB4 : Hid (Below wr.heap.size wr w4) := Lib.hid (by first | exact HB3.out.trans hB4 | exact (HB3.out.alloc HB3.out.size _).trans hB4); have HR4 := Lib.hid hr4; have j0 := (HB4.out.cell (p := ⟨w.heap.size, 0, none⟩) hbl).trans D0.out; have j1 := (HB4.out.cell (p := ⟨w.heap.size, 1, none⟩) hbl).trans D2.out; have j2 := (HB4.out.cell (p := ⟨w0.heap.size, 1, none⟩) hyl).trans D1.out; have j3 := (HB4.out.cell hnadb).trans N0.out; have j4 := (HB4.out.cell hladb).trans L0.out; have HBA := Lib.hid (HBW.out.trans (HB4.out.mono HBW.out.size)); clear hO4 hg4 hB4 hor4 hr4)
                | (go_at_call 117; refine (HIH3.out a4 _ c4 _ (by simp) (HT.out.below HBA.out) (HX.out.below HBA.out) HR4.out hn4).mono ?_; rintro e w5 ⟨rfl, hb5⟩; have HB5 := Lib.hid (HB4.out.trans (hb5.mono HB4.out.size)); have j0 := (HB5.out.cell (p := ⟨w.heap.size, 0, none⟩) hbl).trans D0.out; have j1 := (HB5.out.cell (p := ⟨w.heap.size, 1, none⟩) hbl).trans D2.out; have j2 := (HB5.out.cell (p := ⟨w0.heap.size, 1, none⟩) hyl).trans D1.out; have j3 := (HB5.out.cell hnadb).trans N0.out; have j4 := (HB5.out.cell hladb).trans L0.out; clear hb5))
            all_goals
              have HB6 := Lib.hid (HB.out.trans (HB5.out.mono HB.out.size))
              by_cases hp2 : p2 = 0
              · subst hp2
                have HQ2 := Lib.hid (show R = fe g (Lf.length - (k + 1)) (k + 1) by rw [HQ.out, HFE.out, if_neg (by simp)])
                go_wp2
                go_roundw
                case rel => exact ⟨k + 1, by omega, by go_num, HQ2, HB6.out⟩
                case measure => simp [intOf]; omega
              · have hp2' : (p2 != 0) = true := by simpa using hp2
                have HE := Lib.hid (show R = (p1, p2) by rw [HQ.out, HFE.out, if_pos hp2])
                clear hp2
                go_wp2
                go_ret2
                exact ⟨two_to HE.out, HB2.out.trans (HB6.out.mono HB2.out.size)⟩
          · obtain rfl : k = Lf.length := by omega
            have HE := Lib.hid (show R = (0, 0) by rw [HQ.out, Nat.sub_self]; rfl)
            go_wp2_with fail
            go_ret2
            exact ⟨two_to HE.out, HBW.out⟩
set_option maxRecDepth 100000 in
set_option maxHeartbeats 8000000 in
theorem refWalk_any (x : Cols) (bd : Int) (T : List Nd) (ta : Option Addr) (tc : Nat) (hok : ColsOk x) (hTl : T.length ≤ 3000) (hnl : ∀ z ∈ T, z.nx.length ≤ maxLen) : ∀ (f : Nat) (O : List Int) (at_ : Nat) (a : Option Addr) (n c : Nat) (w : World), n = O.length → (leftK O x.m.length).length = f → O.length + f ≤ 6 → O.Nodup → (∀ y ∈ O, 0 ≤ y ∧ y < x.m.length) → at_ < T.length → NodesAt w ta T → ColsAt w x → RowsAt 1 intL w a O → (a = none → c = 0) →
    Calls Try.prog 117 #[x.v, .int .i64 bd, .slice ta T.length tc, .int .i64 at_, .slice a n c] w (TwoPost (chk x bd T f at_ O) w) := by
  intro f
  induction f with
  | zero =>
    intro O at_ a n c w hn hf hof hnd hin hat hT hx hO hd
    exact walk_one x bd T ta tc hok hTl hnl 0 O at_ a n c w hn hf hof hnd hin hat hT hx hO hd (fun y hy => by rw [List.eq_nil_of_length_eq_zero hf] at hy; cases hy)
  | succ f ih =>
    intro O at_ a n c w hn hf hof hnd hin hat hT hx hO hd
    exact walk_one x bd T ta tc hok hTl hnl (f + 1) O at_ a n c w hn hf hof hnd hin hat hT hx hO hd (fun y hy z a2 m2 c2 W h2 hz hT2 hx2 hO2 hd2 => by
      have h3 := left_more hy
      obtain ⟨h4, h5⟩ := leftK_in O x.m.length y hy
      refine ih (O ++ [y]) z a2 m2 c2 W h2 (by omega) (by rw [List.length_append, List.length_singleton]; omega) ?_ ?_ hz hT2 hx2 hO2 hd2
      · rw [List.nodup_append]
        exact ⟨hnd, by simp, fun u hu v hv e => by rw [List.mem_singleton.1 hv] at e; rw [e] at hu; exact h5 hu⟩
      · intro u hu
        rcases List.mem_append.1 hu with hu | hu
        · exact hin u hu
        · rw [List.mem_singleton.1 hu]; exact h4)
end Go.Proofs.Ytpplcbpnojggcaa

namespace Go.Proofs.Ytpplcbpnojggcaa
open Go.RowKit Go.Maps Go.Shelf

def SlimPost (P : Prop) (w : World) (e : Ending) (w' : World) : Prop := (∃ b, e = .returned (.bool b) ∧ (b = true → P)) ∧ w = w'
theorem leftK_nil : ∀ n, (leftK [] n).length = n
  | 0 => rfl
  | n + 1 => by
    have := leftK_nil n
    unfold leftK
    rw [if_neg (by simp), List.length_append, this]; rfl
/-- What the check of a tree of right colours answers. -/
def ctR (x : Cols) (bd : Int) (T : List Nd) : Int × Int :=
  if inB bd 0 1000000 = false then (0, 2) else if inB (T.length : Int) 1 3000 = false then (0, 10) else chk x bd T x.m.length 0 []
/-- The same tree, laid elsewhere. -/
structure SameN (T T' : List Nd) : Prop where
  len : T'.length = T.length
  kind : ∀ i, (T'.getD i noNd).kind = (T.getD i noNd).kind
  nx : ∀ i, (T'.getD i noNd).nx = (T.getD i noNd).nx
theorem holdB_same {x y : Cols} (h : SameC x y) (bd kind : Int) (O : List Int) : holdB y bd kind O = holdB x bd kind O := by
  unfold holdB restI; rw [h.mins, h.m]
theorem ndE_same {x y : Cols} {T T' : List Nd} (h : SameC x y) (hT : SameN T T') (bd : Int) (at_ : Nat) (O : List Int) : ndE y bd T' at_ O = ndE x bd T at_ O := by
  unfold ndE; rw [hT.kind, hT.nx, hT.len, h.m, holdB_same h]
theorem fe_congr {g g' : Nat → Int × Int} (h : ∀ i, g' i = g i) : ∀ n i, fe g' n i = fe g n i
  | 0, _ => rfl
  | n + 1, i => by unfold fe; rw [h i, fe_congr h n]
theorem chk_same {x y : Cols} {T T' : List Nd} (h : SameC x y) (hT : SameN T T') (bd : Int) : ∀ (f at_ : Nat) (O : List Int), chk y bd T' f at_ O = chk x bd T f at_ O
  | 0, at_, O => by unfold chk; rw [ndE_same h hT]
  | f + 1, at_, O => by
    unfold chk
    rw [ndE_same h hT, hT.kind, hT.nx, h.m]
    rw [fe_congr (g := fun i => chk x bd T f ((T.getD at_ noNd).nx.getD i 0).toNat (O ++ [(leftK O x.m.length).getD i 0])) (fun i => chk_same h hT bd f _ _)]
theorem ctR_same {x y : Cols} {T T' : List Nd} (h : SameC x y) (hT : SameN T T') (bd : Int) : ctR y bd T' = ctR x bd T := by
  unfold ctR; rw [hT.len, h.m, chk_same h hT]
set_option maxRecDepth 100000 in
set_option maxHeartbeats 2000000 in
theorem refCheckColourTree_any (x : Cols) (bd : Int) (T : List Nd) (ta : Option Addr) (tc : Nat) (w : World) (hok : ColsOk x) (hnl : ∀ z ∈ T, z.nx.length ≤ maxLen) (hT : NodesAt w ta T) (hx : ColsAt w x) :
    Calls Try.prog 54 #[x.v, .int .i64 bd, .slice ta T.length tc] w (TwoPost (ctR x bd T) w) := by
  have HDEF := Lib.hid (show ctR x bd T = if inB bd 0 1000000 = false then (0, 2) else if inB (T.length : Int) 1 3000 = false then (0, 10) else chk x bd T x.m.length 0 [] from rfl)
  obtain ⟨R, hR⟩ : ∃ R, R = ctR x bd T := ⟨_, rfl⟩
  rw [← hR] at HDEF ⊢
  have HW := Lib.hid (fun (h1 : 1 ≤ T.length) (h3 : T.length ≤ 3000) W h h2 => refWalk_any x bd T ta tc hok h3 hnl x.m.length [] 0 none 0 0 W rfl (leftK_nil _) (by have := hok.le; simpa using this) List.nodup_nil (fun y hy => by cases hy) h1 h h2 (fun k hk => absurd hk (Nat.not_lt_zero _)) (fun _ => rfl))
  have HT := Lib.hid hT; have HX := Lib.hid hx
  clear hok hnl hT hx hR
  obtain ⟨ma, m, mc, da, TT, dc⟩ := x
  show Calls _ _ #[.agg #[.slice ma m.length mc, .slice da TT.length dc], .int .i64 bd, .slice ta T.length tc] _ _
  have HW : Hid (1 ≤ T.length → T.length ≤ 3000 → ∀ W, NodesAt W ta T → ColsAt W ⟨ma, m, mc, da, TT, dc⟩ → Calls Try.prog 117 #[.agg #[.slice ma m.length mc, .slice da TT.length dc], .int .i64 bd, .slice ta T.length tc, .int .i64 (0 : Nat), .slice none 0 0] W (TwoPost (chk ⟨ma, m, mc, da, TT, dc⟩ bd T m.length 0 []) W)) := HW
  have hB := (Below.refl w.heap.size w).alloc (Nat.le_refl _) (.cells #[.slice ma m.length mc, .slice da TT.length dc] 78)
  have bx := BoxAt.new w #[.slice ma m.length mc, .slice da TT.length dc] 78
  have k0 := bx.cell 0; have k1 := bx.cell 1
  simp at k0 k1
  have HB := Lib.hid hB
  clear hB bx
  go_enter Try.func54, Try.ntmps54
  cases h1 : inB bd 0 1000000
  · have HE := Lib.hid (show R = (0, 2) by rw [HDEF.out, if_pos h1])
    have H1 := Lib.hid h1
    go_wp2_with (go_at_call 30; refine (within_any _ _ _ _).mono ?_; rintro e w' ⟨rfl, rfl⟩; rw [H1.out])
    go_ret2
    exact ⟨two_to HE.out, HB.out⟩
  have H1 := Lib.hid h1
  cases h2 : inB (T.length : Int) 1 3000
  · have HE := Lib.hid (show R = (0, 10) by rw [HDEF.out, if_neg (by rw [h1]; decide), if_pos h2])
    have H2 := Lib.hid h2
    clear h1 h2
    go_wp2_with (go_at_call 30; refine (within_any _ _ _ _).mono ?_; rintro e w' ⟨rfl, rfl⟩; first | rw [H1.out] | rw [H2.out])
    go_ret2
    exact ⟨two_to HE.out, HB.out⟩
  have HE := Lib.hid (show R = chk ⟨ma, m, mc, da, TT, dc⟩ bd T m.length 0 [] by rw [HDEF.out, if_neg (by rw [h1]; decide), if_neg (by rw [h2]; decide)])
  have H2 := Lib.hid h2
  have hin := inB_iff.1 h2
  have HW2 := Lib.hid (fun W h h2 => HW.out (by omega) (by omega) W h h2)
  rw [← HE.out] at HW2
  clear h1 h2 hin
  go_wp2_with (first
    | (go_at_call 30; refine (within_any _ _ _ _).mono ?_; rintro e w' ⟨rfl, rfl⟩; first | rw [H1.out] | rw [H2.out])
    | (go_at_call 117; refine (HW2.out _ (HT.out.below HB.out) (HX.out.below HB.out)).mono ?_; rintro e w2 ⟨rfl, hb2⟩))
  go_ret2
  exact ⟨rfl, HB.out.trans (hb2.mono HB.out.size)⟩
set_option maxRecDepth 100000 in
set_option maxHeartbeats 2000000 in
theorem slim_any (T : List Nd) (ta : Option Addr) (tc : Nat) (w : World) (hT : NodesAt w ta T) (hTl : T.length ≤ maxLen) (hnl : ∀ z ∈ T, z.nx.length ≤ maxLen) :
    Calls Try.prog 58 #[.slice ta T.length tc] w (SlimPost (T.length ≤ 3002 ∧ ∀ z ∈ T, z.nx.length ≤ 8) w) := by
  unfold maxLen at hTl hnl
  have HT := Lib.hid hT; have HNL := Lib.hid hnl
  clear hT hnl
  go_enter Try.func58, Try.ntmps58
  by_cases h1 : (60 < T.length ∧ T.length ≤ 3000) ∨ 3002 < T.length
  · have hg : (60 : Int) < T.length := by omega
    have hg9 := decide_eq_true hg
    rcases h1 with ⟨h2, h3⟩ | h3
    · have hg2 : (T.length : Int) ≤ 3000 := by omega
      have hg8 := decide_eq_true hg2
      go_wp2_with fail
      go_ret
      exact ⟨⟨false, rfl, fun h => by cases h⟩, rfl⟩
    · have hg2 : ¬ (T.length : Int) ≤ 3000 := by omega
      have hg8 := decide_eq_false hg2
      have hg3 : (3002 : Int) < T.length := by omega
      have hg7 := decide_eq_true hg3
      go_wp2_with fail
      go_ret
      exact ⟨⟨false, rfl, fun h => by cases h⟩, rfl⟩
  have hg3 : ¬ (3002 : Int) < T.length := by omega
  have hg7 := decide_eq_false hg3
  have H3 := Lib.hid (show T.length ≤ 3002 by omega)
  have key : ∀ b6 b3 : Bool, decide ((60 : Int) < T.length) = b6 → decide ((T.length : Int) ≤ 3000) = b3 → (b6 && b3) = false := by
    intro b6 b3 e1 e2
    subst e1; subst e2
    simp
    omega
  rcases Nat.lt_or_ge 60 T.length with h6 | h6
  · have hg : (60 : Int) < T.length := by omega
    have hg9 := decide_eq_true hg
    have hg2 : ¬ (T.length : Int) ≤ 3000 := by omega
    have hg8 := decide_eq_false hg2
    clear key h1
    go_wp2_with fail
    go_loop [3] (fun i => ∃ k : Nat, k ≤ T.length ∧ i = .int .i64 k ∧ Hid (∀ z ∈ T.take k, z.nx.length ≤ 8)) (fun i => T.length - (intOf i).toNat)
    case atStart => exact ⟨0, Nat.zero_le _, rfl, Lib.hid (fun z hz => by simp at hz)⟩
    case round =>
      obtain ⟨k, hk, rfl, HQ⟩ := hrel
      by_cases hlt : k < T.length
      · obtain ⟨ad, rfl, had, s0, s1⟩ := HT.out.node hlt
        have HTK := Lib.hid (List.take_succ_eq_append_getElem hlt)
        have hzl := HNL.out _ (List.getElem_mem hlt)
        obtain ⟨z, ez⟩ : ∃ z, z = T[k] := ⟨_, rfl⟩
        rw [← ez] at s0 s1 HTK hzl
        have hkl : (k : Int) < (T.length : Int) := by omega
        clear ez
        by_cases h8 : 8 < z.nx.length
        · have h8' : (8 : Int) < (z.nx.length : Int) := by omega
          have h89 := decide_eq_true h8'
          clear h8
          go_wp2_with fail
          go_ret
          exact ⟨⟨false, rfl, fun h => by cases h⟩, rfl⟩
        · have h8' : ¬ (8 : Int) < (z.nx.length : Int) := by omega
          have h89 := decide_eq_false h8'
          have HQ2 : Hid (∀ y ∈ T.take (k + 1), y.nx.length ≤ 8) := Lib.hid (fun y hy => by
            rw [HTK.out] at hy
            rcases List.mem_append.1 hy with h | h
            · exact HQ.out y h
            · rw [List.mem_singleton.1 h]; omega)
          clear h8
          go_wp2_with fail
          go_round
          case rel => exact ⟨k + 1, by omega, by go_num, HQ2⟩
          case measure => simp [intOf]; omega
      · obtain rfl : k = T.length := by omega
        rw [List.take_length] at HQ
        go_wp2_with fail
        go_ret
        exact ⟨⟨true, rfl, fun _ => ⟨H3.out, HQ.out⟩⟩, rfl⟩
  · have hg : ¬ (60 : Int) < T.length := by omega
    have hg9 := decide_eq_false hg
    clear key h1
    go_wp2_with fail
    go_loop [3] (fun i => ∃ k : Nat, k ≤ T.length ∧ i = .int .i64 k ∧ Hid (∀ z ∈ T.take k, z.nx.length ≤ 8)) (fun i => T.length - (intOf i).toNat)
    case atStart => exact ⟨0, Nat.zero_le _, rfl, Lib.hid (fun z hz => by simp at hz)⟩
    case round =>
      obtain ⟨k, hk, rfl, HQ⟩ := hrel
      by_cases hlt : k < T.length
      · obtain ⟨ad, rfl, had, s0, s1⟩ := HT.out.node hlt
        have HTK := Lib.hid (List.take_succ_eq_append_getElem hlt)
        have hzl := HNL.out _ (List.getElem_mem hlt)
        obtain ⟨z, ez⟩ : ∃ z, z = T[k] := ⟨_, rfl⟩
        rw [← ez] at s0 s1 HTK hzl
        have hkl : (k : Int) < (T.length : Int) := by omega
        clear ez
        by_cases h8 : 8 < z.nx.length
        · have h8' : (8 : Int) < (z.nx.length : Int) := by omega
          have h89 := decide_eq_true h8'
          clear h8
          go_wp2_with fail
          go_ret
          exact ⟨⟨false, rfl, fun h => by cases h⟩, rfl⟩
        · have h8' : ¬ (8 : Int) < (z.nx.length : Int) := by omega
          have h89 := decide_eq_false h8'
          have HQ2 : Hid (∀ y ∈ T.take (k + 1), y.nx.length ≤ 8) := Lib.hid (fun y hy => by
            rw [HTK.out] at hy
            rcases List.mem_append.1 hy with h | h
            · exact HQ.out y h
            · rw [List.mem_singleton.1 h]; omega)
          clear h8
          go_wp2_with fail
          go_round
          case rel => exact ⟨k + 1, by omega, by go_num, HQ2⟩
          case measure => simp [intOf]; omega
      · obtain rfl : k = T.length := by omega
        rw [List.take_length] at HQ
        go_wp2_with fail
        go_ret
        exact ⟨⟨true, rfl, fun _ => ⟨H3.out, HQ.out⟩⟩, rfl⟩
end Go.Proofs.Ytpplcbpnojggcaa

namespace Go.Proofs.Ytpplcbpnojggcaa
open Go.RowKit Go.Maps Go.Shelf

theorem ndV_l : ∀ x : Nd, (ndV x).length = 2 := fun _ => rfl
theorem ndV_one : ∀ x : Nd, ∀ u ∈ ndV x, u.oneCell' = true := fun x u hu => by
  rcases List.mem_cons.1 hu with rfl | hu
  · rfl
  · rw [List.mem_singleton.1 hu]; rfl
theorem tNd : ElG 2 32 89 170 (.agg #[.int .i64 0, .slice none 0 0]) := ⟨Try.underlying89, by kernel_rfl, rfl, by decide, by decide⟩
theorem own_made2 (w : World) (B : Nat) (x : Nd) (hB : B ≤ w.heap.size) : OwnG 2 170 ndV (w.alloc (.cells #[.int .i64 x.kind, .slice x.a x.nx.length x.c] 170)) B (.slice (some ⟨w.heap.size, 0, none⟩) 1 1) [x] :=
  ⟨by simp [ndV], .inr ⟨w.heap.size, 1, #[.int .i64 x.kind, .slice x.a x.nx.length x.c], rfl, hB, heap_alloc_new w _, Nat.le_refl _, by unfold maxLen; decide, rfl, rfl⟩⟩
theorem rows_made2 (w : World) (x : Nd) : RowsG 2 ndV (w.alloc (.cells #[.int .i64 x.kind, .slice x.a x.nx.length x.c] 170)) (some ⟨w.heap.size, 0, none⟩) [x] := by
  obtain ⟨a, c, e, h, -⟩ := (own_made2 w w.heap.size x (Nat.le_refl _)).rows ndV_l
  injection e with e1
  rw [e1]; exact h
/-- The branches of nodes, each a row of the call's own. -/
def OwnNx (w : World) (B : Nat) (T : List Nd) : Prop := ∀ x ∈ T, OwnR 1 3 intL w B (.slice x.a x.nx.length x.c) x.nx
theorem OwnNx.below {w w' : World} {B : Nat} {T : List Nd} (h : OwnNx w B T) (hb : Below w.heap.size w w') : OwnNx w' B T := fun x hx => (h x hx).below hb
theorem OwnNx.grown {w w' : World} {B B' n m : Nat} {v : Value} {T : List Nd} {xs : List Value} (h : OwnNx w B T) (ho : w.ownsRow B' 170 n v m xs) (hg : w.grownBy w' v.ownBlock) : OwnNx w' B T := fun x hx =>
  (h x hx).grown hg (fun q e e' => rows_apart (h x hx) ho (by decide) q e e'.symm)
def kn (x : Nd) : Int × List Int := (x.kind, x.nx)
theorem same_kn {T T' : List Nd} (h : T'.map kn = T.map kn) : SameN T T' := by
  have hl : T'.length = T.length := by have := congrArg List.length h; simpa using this
  have hk : ∀ i, kn (T'.getD i noNd) = kn (T.getD i noNd) := fun i => by
    have h1 := congrArg (fun L => L[i]?) h
    simp only [List.getElem?_map] at h1
    rw [List.getD_eq_getElem?_getD, List.getD_eq_getElem?_getD]
    rcases Nat.lt_or_ge i T.length with hi | hi
    · rw [List.getElem?_eq_getElem hi, List.getElem?_eq_getElem (by omega)] at h1 ⊢
      simpa using h1
    · rw [List.getElem?_eq_none hi, List.getElem?_eq_none (by omega)]
  exact ⟨hl, fun i => congrArg Prod.fst (hk i), fun i => congrArg Prod.snd (hk i)⟩
/-- A copy of a tree. -/
def CTPost (T : List Nd) (w : World) (e : Ending) (w' : World) : Prop := ∃ (a : Option Addr) (c : Nat) (T' : List Nd), e = .returned (.slice a T'.length c) ∧ SameN T T' ∧ NodesAt w' a T' ∧ Below w.heap.size w w'
set_option maxRecDepth 100000 in
set_option maxHeartbeats 4000000 in
theorem copyTree_any (T : List Nd) (ta : Option Addr) (tc : Nat) (w : World) (hT : NodesAt w ta T) (hl : T.length ≤ 3002) (hsz : ∀ x ∈ T, x.nx.length ≤ 1000000) (hd : ∀ x ∈ T, x.a = none → x.c = 0) :
    Calls Try.prog 56 #[.slice ta T.length tc] w (CTPost T w) := by
  have HSZ := Lib.hid hsz; have HD := Lib.hid hd; have HT := Lib.hid hT
  clear hsz hd hT
  go_enter Try.func56, Try.ntmps56
  go_wp2_with fail
  go_loopw [3, 4] (fun v i wr => ∃ (k : Nat) (T' : List Nd), k ≤ T.length ∧ i = .int .i64 k ∧ Hid (T'.map kn = (T.take k).map kn) ∧ Hid (T'.length = k) ∧ OwnG 2 170 ndV wr w.heap.size v T' ∧ OwnNx wr w.heap.size T' ∧ Below w.heap.size w wr) (fun _ i _ => T.length - (intOf i).toNat)
  case atStart => exact ⟨0, [], Nat.zero_le _, rfl, Lib.hid rfl, Lib.hid rfl, OwnG.nil _ _, fun x hx => (by cases hx), Below.refl _ _⟩
  case round =>
    obtain ⟨k, T', hk, rfl, HM, HTL, hown, hrows, hB⟩ := hrel
    by_cases hlt : k < T.length
    · obtain ⟨ad, rfl, hadw, -, -⟩ := HT.out.node hlt
      obtain ⟨ad2, e2, had, s0, s1⟩ := (HT.out.below hB).node hlt
      injection e2 with e2
      subst e2
      have HRW := Lib.hid ((HT.out.below hB).nxt _ (List.getElem_mem hlt))
      have hxl := HSZ.out _ (List.getElem_mem hlt)
      have HXD := Lib.hid (HD.out _ (List.getElem_mem hlt))
      have HTK := Lib.hid (show (T.take (k + 1)).map kn = (T.take k).map kn ++ [kn T[k]] by rw [List.take_succ_eq_append_getElem hlt, List.map_append]; rfl)
      obtain ⟨z, ez⟩ : ∃ z, z = T[k] := ⟨_, rfl⟩
      rw [← ez] at s0 s1 HRW hxl HXD HTK
      obtain ⟨kd, na, nx, nc⟩ := z
      dsimp only at s0 s1 HRW hxl HXD
      have hkl : (k : Int) < (T.length : Int) := by omega
      have HO := Lib.hid hown; have HRS := Lib.hid hrows; have HB := Lib.hid hB
      obtain ⟨va, vc, ev, -⟩ := hown.rows ndV_l
      subst ev
      have HCI := Lib.hid (fun W h => copyInts_any na nx nx.length nc W rfl h hxl HXD.out)
      have S0 := Lib.hid s0; have S1 := Lib.hid s1
      clear ez hown hrows hB
      go_wp2_with fail
      have j0 := s0; have j1 := s1
      go_region_held3 (fun w' => w'.cell? (ad.add (k * 2)) = some (.int .i64 kd) ∧ w'.cell? ⟨(ad.add (k * 2)).block, (ad.add (k * 2)).off + 1, none⟩ = some (.slice na nx.length nc)) (first | exact ⟨j0, j1⟩ | go_keep)
        (first
          | (go_at_call 47; refine (HCI.out _ (HRW.out.drew)).mono ?_; rintro e w2 ⟨v2, rfl, hO2, hb2⟩; obtain ⟨a2, c2, e2, -⟩ := hO2.rows int_l; subst e2; have HBD : Hid (Below wr.heap.size wr w2) := Lib.hid ((Below.refl _ wr).drew.trans hb2); have HO2 := Lib.hid (hO2.mono (B' := w.heap.size) HB.out.size); have j0 := (HBD.out.cell had).trans S0.out; have j1 := (HBD.out.cell (p := ⟨(ad.add (k * 2)).block, (ad.add (k * 2)).off + 1, none⟩) had).trans S1.out; clear hO2 hb2)
          | (refine step_appG tNd ndV_l ndV_one _ (by rfl) _ _ (by rfl) w.heap.size _ T' (by rfl) ((HO.out.below HBD.out).below ((Below.refl _ _).alloc (Nat.le_refl _) _)) _ [⟨kd, a2, nx, c2⟩] 1 1 rfl (by rfl) (rows_made2 w2 ⟨kd, a2, nx, c2⟩) (fun e => by cases e) (by have := HTL.out; omega) (by simp) (by have h1 := HBD.out.size; have h2 := HB.out.size; simp; omega) ?_; intro v3 w3 hO3 hg3 hb3 hor3; have j0 := (hb3.cell (p := ad.add (k * 2)) hadw).trans (cell_alloc_keep j0); have j1 := (hb3.cell (p := ⟨(ad.add (k * 2)).block, (ad.add (k * 2)).off + 1, none⟩) hadw).trans (cell_alloc_keep j1)))
      have HOA := (HO.out.below HBD.out).below ((Below.refl w2.heap.size w2).alloc (Nat.le_refl _) (.cells #[.int .i64 kd, .slice a2 nx.length c2] 170))
      have hrows3 : OwnNx w3 w.heap.size (T' ++ [⟨kd, a2, nx, c2⟩]) := fun y hy => by
        rcases List.mem_append.1 hy with h | h
        · exact (((HRS.out.below HBD.out).below ((Below.refl w2.heap.size w2).alloc (Nat.le_refl _) _)).grown HOA hg3) y h
        · rw [List.mem_singleton.1 h]
          exact (HO2.out.alloc _).grown hg3 (fun q e e' => rows_apart (HO2.out.alloc _) HOA (by decide) q e e'.symm)
      have HB3 := Lib.hid ((HB.out.trans (HBD.out.mono HB.out.size)).trans (((Below.refl w2.heap.size w2).alloc (Nat.le_refl _) (.cells #[.int .i64 kd, .slice a2 nx.length c2] 170)).mono (Nat.le_trans HB.out.size HBD.out.size) |>.trans hb3))
      have HR3 := Lib.hid hrows3; have HO3 := Lib.hid hO3
      obtain ⟨va3, vc3, ev3, -⟩ := hO3.rows ndV_l
      subst ev3
      clear hrows3 hO3 hg3 hb3 hor3 HOA
      go_wp2
      go_roundw
      case rel => exact ⟨k + 1, T' ++ [⟨kd, a2, nx, c2⟩], by omega, by go_num, Lib.hid (by rw [List.map_append, HM.out, HTK.out]; rfl), Lib.hid (by rw [List.length_append, HTL.out]; rfl), HO3.out, HR3.out, HB3.out⟩
      case measure => simp [intOf]; omega
    · have hk2 : k = T.length := by omega
      subst hk2
      obtain ⟨a2, c2, ev, hr2, hn2, hge2⟩ := hown.rows ndV_l
      subst ev
      have HMM := Lib.hid (same_kn (show T'.map kn = T.map kn by rw [HM.out, List.take_length]))
      have HTA : Hid (NodesAt wr a2 T') := Lib.hid ⟨hr2, fun x hx => by
        obtain ⟨a3, c3, e3, hr3, -⟩ := (hrows x hx).rows int_l
        injection e3 with e4
        rw [e4]; exact hr3⟩
      clear hge2 hrows hown hr2
      go_wp2
      go_ret
      exact ⟨a2, c2, T', rfl, HMM.out, HTA.out, hB⟩
end Go.Proofs.Ytpplcbpnojggcaa

namespace Go.Proofs.Ytpplcbpnojggcaa
open Go.RowKit

/-- A tree of orders under way whose nodes are not looked at. -/
structure TC (w0 W : World) (b : Nat) (x : Cols) (bnd : Int) (nv : Value) (O : List Int) (ov : Value) : Prop where
  box : BoxAt W b #[.slice x.ma x.m.length x.mc, .slice x.da x.T.length x.dc, .int .i64 bnd, nv, ov] 164
  own : OwnR 1 3 intL W w0.heap.size ov O
  low : Below w0.heap.size w0 W
  ge : w0.heap.size ≤ b
theorem TC.keep {w0 W W' : World} {b : Nat} {x : Cols} {bnd : Int} {nv : Value} {O : List Int} {ov : Value} (h : TC w0 W b x bnd nv O ov) (hk : ∀ (q : Nat) (o : Obj), W.heap[q]? = some o → o.isCells = true → W'.heap[q]? = some o) (hl : Below w0.heap.size w0 W') : TC w0 W' b x bnd nv O ov :=
  ⟨hk _ _ h.box rfl, h.own.same (fun q e => by obtain ⟨cs, hc⟩ := own_block h.own q e; rw [hc]; exact hk _ _ hc rfl), hl, h.ge⟩
theorem TC.below {w0 W W' : World} {b : Nat} {x : Cols} {bnd : Int} {nv : Value} {O : List Int} {ov : Value} (h : TC w0 W b x bnd nv O ov) (hb : Below W.heap.size W W') : TC w0 W' b x bnd nv O ov :=
  h.keep (fun q _ e _ => (hb.block q (heap_lt e)).trans e) (h.low.trans (hb.mono h.low.size))
def tcPost (B : Nat) (R R' : World → Prop) (W : World) : Exit → Act → World → Prop
  | .normal, _, W' => KeepsFrom B W W' ∧ R W'
  | .ret, _, W' => KeepsFrom B W W' ∧ R' W'
  | _, _, _ => False
variable {F : Fence} {n : Nat} {P : Program}
def SeqTc (F : Fence) (n : Nat) (P : Program) (g : Nat) (lb : Array Value) (w0 : World) (b pb : Nat) (x : Cols) (bnd : Int) (nv : Value) (O L : List Int) (w : World) : Prop :=
  ∀ (l : Nat) (J : Nat → Nat × Value → World → Prop) (D : Nat → World → Prop) (W : World) (ov0 : Value), Below w.heap.size w W → TC w0 W b x bnd nv O ov0 →
    (∀ K k ov ov' X Y, J K (k, ov) X → (∃ O' O'', TC w0 X b x bnd nv O' ov ∧ TC w0 Y b x bnd nv O'' ov') → TreeTurn b ov ov' X Y → J K (k, ov') Y) →
    (∀ K ov ov' X Y, D K X → (∃ O' O'', TC w0 X b x bnd nv O' ov ∧ TC w0 Y b x bnd nv O'' ov') → TreeTurn b ov ov' X Y → D K Y) →
    (∀ K k W1 ov, W.heap.size ≤ K → K ≤ W1.heap.size → J K (k, ov) W1 → k < L.length → TC w0 W1 b x bnd nv (O ++ [L.getD k 0]) ov → OutOf W.heap.size K ov → YieldAt F (n - 1) P l #[.int .i64 k] W1 fun e W' =>
      (∃ go : Bool, e = .returned (.bool go) ∧ ∃ ov', ((go = true ∧ J K (k + 1, ov') W') ∨ (go = false ∧ D K W')) ∧ TC w0 W' b x bnd nv (O ++ [L.getD k 0]) ov' ∧ OutOf W.heap.size K ov') ∧ (∀ q, (q = pb ∨ (W.heap.size ≤ q ∧ q < K)) → W'.heap[q]? = W1.heap[q]?) ∧ KeepsFrom W.heap.size W1 W') →
    (∀ X, Below W.heap.size W X → J X.heap.size (0, ov0) X) →
    CallsIn F n P g (#[.func (.yield l) #[] #[]] ++ lb) W fun e W' => (∃ v, e = .returned v) ∧ ∃ K ov, (J K (L.length, ov) W' ∨ D K W') ∧ TC w0 W' b x bnd nv O ov

theorem wpIn_rangeFunc_tc {g : Operand} {ps : Array Tmp} {assign body : Code} {Q : Exit → Act → World → Prop} {a : Act} {w : World}
    (hro : F.round = none) (h1 : 1 ≤ n) {gf : Nat} {lb : Array Value} (hg : a.eval g = .func (.func gf) #[] lb) (hFg : F.fn gf) (eg : ∀ args w, (callFunc gf args).run P w = .ok (.enter gf args) w)
    {w0 : World} {b pb : Nat} {x : Cols} {bnd : Int} {nv : Value} {O L : List Int} (hseq : SeqTc F (n - 1) P gf lb w0 b pb x bnd nv O L w) (hpb : pb < w.heap.size)
    (hps : ps.size = 1)
    (I : Nat → Nat × Value → World → Prop) (hI : ∀ K, OwnFrom w.heap.size (I K)) (E : Nat → World → Prop) (hE : ∀ K, OwnFrom w.heap.size (fun (_ : Unit) => E K))
    (hIm : ∀ K k ov ov' X Y, I K (k, ov) X → (∃ O' O'', TC w0 X b x bnd nv O' ov ∧ TC w0 Y b x bnd nv O'' ov') → TreeTurn b ov ov' X Y → I K (k, ov') Y)
    (hEm : ∀ K ov ov' X Y, E K X → (∃ O' O'', TC w0 X b x bnd nv O' ov ∧ TC w0 Y b x bnd nv O'' ov') → TreeTurn b ov ov' X Y → E K Y)
    {ov0 : Value} (ht0 : TC w0 w b x bnd nv O ov0)
    (h0 : ∀ X, Below w.heap.size w X → I X.heap.size (0, ov0) X) (a₁ : Nat → Act)
    (hassign : ∀ (l : Nat) (k : Nat) (W : World) (K : Act → World → Prop), K (a₁ k) W →
      assign.wpIn (F.inRound l) (n - 1 - 1) P (Exit.then K (fun _ _ _ => False)) { tmps := (ps.zip #[.int .i64 k]).foldl (fun t (p, v) => t.setIfInBounds p v) a.tmps, defers := [] } W)
    (hbody : ∀ (l K k : Nat) (W : World) (ov : Value), w.heap.size + 2 ≤ K → K ≤ W.heap.size → I K (k, ov) W → k < L.length → TC w0 W b x bnd nv (O ++ [L.getD k 0]) ov → OutOf (w.heap.size + 2) K ov →
      body.wpIn (F.inRound l) (n - 1 - 1) P (tcPost w.heap.size (fun W' => (∃ ov', I K (k + 1, ov') W' ∧ TC w0 W' b x bnd nv (O ++ [L.getD k 0]) ov' ∧ OutOf (w.heap.size + 2) K ov') ∧ ∀ q, (q = pb ∨ (w.heap.size + 2 ≤ q ∧ q < K)) → W'.heap[q]? = W.heap[q]?) (fun W' => (∃ ov', E K W' ∧ TC w0 W' b x bnd nv (O ++ [L.getD k 0]) ov' ∧ OutOf (w.heap.size + 2) K ov') ∧ ∀ q, (q = pb ∨ (w.heap.size + 2 ≤ q ∧ q < K)) → W'.heap[q]? = W.heap[q]?) W) (a₁ k) W)
    (hdone : ∀ (D K : Nat) (W : World) (ov : Value), w.heap.size ≤ D → TC w0 W b x bnd nv O ov → I K (L.length, ov) W → W.heap[D]? = some (.deferred (some [])) → Q .normal { a with defers := { target := .collected D, args := #[] } :: a.defers } W)
    (hret : ∀ (D K : Nat) (W : World) (ov : Value), w.heap.size ≤ D → TC w0 W b x bnd nv O ov → E K W → W.heap[D]? = some (.deferred (some [])) → Code.ret.wpIn F n P Q { a with defers := { target := .collected D, args := #[] } :: a.defers } W) :
    (Code.rangeFunc g ps assign body).wpIn F n P Q a w := by
  refine wpIn_rangeFunc fun fn hfn => ?_
  rw [hro]
  let lp : LoopState → Option Code → Loop := fun st pe => { state := st, pending := pe, fn, tmps := a.tmps, params := ps, assign, body, defers := w.heap.size }
  have hlp : ∀ st pe, lp st pe = { state := st, pending := pe, fn, tmps := a.tmps, params := ps, assign, body, defers := w.heap.size } := fun _ _ => rfl
  obtain ⟨B, hB⟩ : ∃ B, B = w.heap.size := ⟨_, rfl⟩
  obtain ⟨V, hV⟩ : ∃ V, V = (w.alloc (.deferred (some []))).alloc (.loop (lp .ready none)) := ⟨_, rfl⟩
  have vsz : V.heap.size = B + 2 := by rw [hV, hB]; simp
  have vloop : V.heap[B + 1]? = some (.loop (lp .ready none)) := by
    have h := World.alloc_heap_new (w.alloc (.deferred (some []))) (.loop (lp .ready none))
    rw [World.size_alloc, ← hV, ← hB] at h; exact h
  have vdef : V.heap[B]? = some (.deferred (some [])) := by
    rw [hV, hB]; exact (Below.heap_alloc _ _ _ (by simp)).trans (World.alloc_heap_new w _)
  have vb : Below w.heap.size w V := by rw [hV]; exact ((Below.refl _ w).alloc (Nat.le_refl _) _).alloc (by simp) _
  have vI : ∀ X, Below V.heap.size V X → I X.heap.size (0, ov0) X := fun X hX => h0 X (vb.trans (hX.mono vb.size))
  have hw0 := ht0.low.size
  have hbl := ht0.box.lt
  rw [← hB] at hI hE hbody hdone hret hw0 hbl hpb
  let J : Nat → Nat × Value → World → Prop := fun K s W => I K s W ∧ W.heap[B + 1]? = some (.loop (lp .ready none)) ∧ W.heap[B]? = some (.deferred (some []))
  let D : Nat → World → Prop := fun K W => E K W ∧ W.heap[B + 1]? = some (.loop (lp .done (some .ret))) ∧ W.heap[B]? = some (.deferred (some []))
  have hkeep : ∀ ov ov' X Y, (∃ O' O'', TC w0 X b x bnd nv O' ov ∧ TC w0 Y b x bnd nv O'' ov') → TreeTurn b ov ov' X Y → ∀ (q : Nat) (o : Obj), X.heap[q]? = some o → o.isCells = false → Y.heap[q]? = some o := fun ov ov' X Y ht hy q o h hc => (hy.block q (heap_lt h) (fun e => by
      obtain ⟨O', _, ht, -⟩ := ht
      have h2 := ht.box
      unfold BoxAt at h2
      rw [← e, h] at h2; cases h2; cases hc) (fun e => by
      obtain ⟨O', _, ht, -⟩ := ht
      obtain ⟨cs, hcs⟩ := own_block ht.own q e
      rw [h] at hcs; cases hcs; cases hc)).trans h
  have hJm : ∀ K k ov ov' X Y, J K (k, ov) X → (∃ O' O'', TC w0 X b x bnd nv O' ov ∧ TC w0 Y b x bnd nv O'' ov') → TreeTurn b ov ov' X Y → J K (k, ov') Y := fun K k ov ov' X Y hs ht hy =>
    ⟨hIm K k ov ov' X Y hs.1 ht hy, hkeep _ _ _ _ ht hy _ _ hs.2.1 rfl, hkeep _ _ _ _ ht hy _ _ hs.2.2 rfl⟩
  have hDm : ∀ K ov ov' X Y, D K X → (∃ O' O'', TC w0 X b x bnd nv O' ov ∧ TC w0 Y b x bnd nv O'' ov') → TreeTurn b ov ov' X Y → D K Y := fun K ov ov' X Y hs ht hy =>
    ⟨hEm K ov ov' X Y hs.1 ht hy, hkeep _ _ _ _ ht hy _ _ hs.2.1 rfl, hkeep _ _ _ _ ht hy _ _ hs.2.2 rfl⟩
  refine ⟨B + 1, [{ target := .collected B, args := #[] }], V, { target := .fn (.func gf) lb, args := #[.func (.yield (B + 1)) #[] #[]] }, V, gf, #[.func (.yield (B + 1)) #[] #[]] ++ lb, V, ?_, ?_, ?_, ?_, fun _ => h1, ?_⟩
  · rw [hV, hB]; exact run_enterLoop_outer _ _ _ _ _
  · simp only [resolve, hg]; simp [go_sem]
  · intro f' hf'; simp [Target.leads] at hf'; subst hf'; exact hFg
  · simp [invoke, go_sem, eg]
  refine (hseq (B + 1) J D V ov0 vb (ht0.below vb) hJm hDm ?_ (fun X hX => ⟨vI X hX, (hX.block _ (by omega)).trans vloop, (hX.block _ (by omega)).trans vdef⟩)).mono ?_
  · rintro K k W ov hVK hKW ⟨hi, hl, hk⟩ hlen hts hov
    rw [vsz] at hVK hov ⊢
    have hlt : B + 1 < W.heap.size := (Array.getElem?_eq_some_iff.1 hl).1
    have hy := run_yield (P := P) (args := #[.int .i64 k]) hl (by rw [hlp]; exact hps.symm)
    rw [hlp] at hy
    refine ⟨fn, _, assign, body, hy, roundIn_of_wpIn hfn (hassign _ k W _ ⟨_, run_beginRound hl (by rw [hlp]), ?_⟩)⟩
    obtain ⟨Wb, hWb⟩ : ∃ Wb, Wb = W.putObj (B + 1) (.loop { lp .ready none with state := .busy }) := ⟨_, rfl⟩
    have bl : Wb.heap[B + 1]? = some (.loop { lp .ready none with state := .busy }) := by rw [hWb]; exact World.putObj_heap_same hlt
    have bd : Wb.heap[B]? = some (.deferred (some [])) := by rw [hWb]; exact (World.putObj_heap_other (by omega)).trans hk
    have bz : W.heap.size = Wb.heap.size := by rw [hWb]; simp
    have bi : I K (k, ov) Wb := by rw [hWb]; exact (hI K).putObj _ hi (by omega) hl rfl
    have bt : TC w0 Wb b x bnd nv (O ++ [L.getD k 0]) ov := by
      rw [hWb]
      exact hts.keep (fun q o h hc => (World.putObj_heap_other (fun e => by rw [e, hl] at h; cases h; cases hc)).trans h) (below_putObj hts.low (by omega) _)
    have bw : ∀ q, (q = pb ∨ (B + 2 ≤ q ∧ q < K)) → Wb.heap[q]? = W.heap[q]? := fun q hq => by rw [hWb]; exact World.putObj_heap_other (by omega)
    rw [← hWb]
    refine wpIn_mono (hbody _ K k _ ov (by omega) (by omega) bi hlen bt hov) ?_
    have fin : ∀ (jump : Option Code) (W3 : World), KeepsFrom B Wb W3 →
        (Instr.endRound (B + 1) jump).run P W3 = .ok (.bool jump.isNone) (W3.putObj (B + 1) (.loop (lp (if jump.isNone then .ready else .done) jump))) ∧
        W3.heap[B + 1]? = some (.loop { lp .ready none with state := .busy }) ∧
        (W3.putObj (B + 1) (.loop (lp (if jump.isNone then .ready else .done) jump))).heap[B + 1]? = some (.loop (lp (if jump.isNone then .ready else .done) jump)) ∧
        (W3.putObj (B + 1) (.loop (lp (if jump.isNone then .ready else .done) jump))).heap[B]? = some (.deferred (some [])) := fun jump W3 hk3 => by
      have h3 := hk3.same _ _ (by omega) bl rfl
      have hr := run_endRound (P := P) jump h3
      exact ⟨hr, h3, World.putObj_heap_same (Array.getElem?_eq_some_iff.1 h3).1, (World.putObj_heap_other (by omega)).trans (hk3.same _ _ (Nat.le_refl _) bd rfl)⟩
    have kf : ∀ (o' : Obj) (W3 : World), KeepsFrom B Wb W3 → KeepsFrom (B + 2) W (W3.putObj (B + 1) o') := fun o' W3 hk3 =>
      ⟨by have := hk3.size; rw [World.putObj_size]; omega, fun k o hk h0 ho => (World.putObj_heap_other (by omega)).trans (hk3.same k o (by omega) (by rw [hWb]; exact (World.putObj_heap_other (by omega)).trans h0) ho)⟩
    rintro e a3 W3 hp
    cases e with
    | normal =>
      obtain ⟨hk3, ⟨ov', hi3, ht3, ho3⟩, hw3⟩ := hp
      obtain ⟨hr, h3, h4, h5⟩ := fin none W3 hk3
      refine ⟨_, _, hr, ⟨true, rfl, ov', Or.inl ⟨rfl, (hI K).putObj _ hi3 (by omega) h3 rfl, h4, h5⟩, ?_, ho3⟩, fun q h1 => (World.putObj_heap_other (by omega)).trans ((hw3 q h1).trans (bw q h1)), kf _ _ hk3⟩
      exact ht3.keep (fun q o h hc => (World.putObj_heap_other (fun e => by rw [e, h3] at h; cases h; cases hc)).trans h) (below_putObj ht3.low (by omega) _)
    | ret =>
      obtain ⟨hk3, ⟨ov', hi3, ht3, ho3⟩, hw3⟩ := hp
      obtain ⟨hr, h3, h4, h5⟩ := fin (some .ret) W3 hk3
      refine ⟨_, _, hr, ⟨false, rfl, ov', Or.inr ⟨rfl, (hE K).putObj (s := ()) _ hi3 (by omega) h3 rfl, h4, h5⟩, ?_, ho3⟩, fun q h1 => (World.putObj_heap_other (by omega)).trans ((hw3 q h1).trans (bw q h1)), kf _ _ hk3⟩
      exact ht3.keep (fun q o h hc => (World.putObj_heap_other (fun e => by rw [e, h3] at h; cases h; cases hc)).trans h) (below_putObj ht3.low (by omega) _)
    | exit id => exact hp.elim
    | goto t => exact hp.elim
    | panic ch => exact hp.elim
    | outgrown => exact hp.elim
  · rintro e W2 ⟨⟨v, rfl⟩, K, ov, hJD, ht⟩
    rcases hJD with ⟨hi, hl, hk⟩ | ⟨hi, hl, hk⟩
    · refine ⟨none, _, run_endLoop (P := P) hl (by rw [hlp]; simp), hdone _ K _ ov (Nat.le_refl _) ?_ ((hI K).putObj _ hi (by omega) hl rfl) ((World.putObj_heap_other (by omega)).trans hk)⟩
      exact ht.keep (fun q o h hc => (World.putObj_heap_other (fun e => by rw [e, hl] at h; cases h; cases hc)).trans h) (below_putObj ht.low (by omega) _)
    · refine ⟨some .ret, _, run_endLoop (P := P) hl (by rw [hlp]; simp), hret _ K _ ov (Nat.le_refl _) ?_ ((hE K).putObj (s := ()) _ hi (by omega) hl rfl) ((World.putObj_heap_other (by omega)).trans hk)⟩
      exact ht.keep (fun q o h hc => (World.putObj_heap_other (fun e => by rw [e, hl] at h; cases h; cases hc)).trans h) (below_putObj ht.low (by omega) _)
end Go.Proofs.Ytpplcbpnojggcaa

namespace Go.Proofs.Ytpplcbpnojggcaa
open Go.RowKit Go.Maps Go.Shelf
attribute [local go_sem] Oper.semAt_some

theorem TC.app {w0 wr wg : World} {b : Nat} {x : Cols} {bnd : Int} {nv : Value} {O O1 : List Int} {ov : Value} {gg n1 c1 : Nat} (ht : TC w0 wr b x bnd nv O ov) (hO : OwnR 1 3 intL wg w0.heap.size (.slice (some ⟨gg, 0, none⟩) n1 c1) O1) (hg : wr.drew.grownBy wg ov.ownBlock) (hb : Below w0.heap.size wr.drew wg) (hat : ov.ownBlock = some gg ∨ gg = wr.drew.heap.size + 1) :
    TC w0 (wg.setCell ⟨b, 4, none⟩ (.slice (some ⟨gg, 0, none⟩) n1 c1)) b x bnd nv O1 (.slice (some ⟨gg, 0, none⟩) n1 c1) ∧ TreeTurn b ov (.slice (some ⟨gg, 0, none⟩) n1 c1) wr (wg.setCell ⟨b, 4, none⟩ (.slice (some ⟨gg, 0, none⟩) n1 c1)) := by
  have Bg : BoxAt wg b #[.slice x.ma x.m.length x.mc, .slice x.da x.T.length x.dc, .int .i64 bnd, nv, ov] 164 := BoxAt.grown (w := wr.drew) ht.box hg (fun e => own_ne ht.own ht.box (by decide) e.symm)
  have hbb : Below w0.heap.size w0 wg := ht.low.drew.trans hb
  refine ⟨⟨?_, ?_, hbb.setCell (p := ⟨b, 4, none⟩) ht.ge _, ht.ge⟩, ⟨hb.os, hb.tape, hb.output, by have := hb.size; simp; exact this, fun k hk h1 h2 => ?_, fun q e => ?_⟩⟩
  · exact Bg.set 4 (.slice (some ⟨gg, 0, none⟩) n1 c1)
  · exact hO.set (own_ne hO Bg (by decide)) _
  · rw [Below.heap_setCell _ _ _ _ (by show k ≠ b; exact h1)]
    exact hg.block k hk (fun e => h2 e.symm)
  · have e : gg = q := by simpa [Value.ownBlock] using e
    subst e
    rcases hat with h | h
    · exact Or.inl h
    · right; rw [h]; show wr.heap.size ≤ wr.heap.size + 1; omega
theorem TC.cut {w0 W : World} {b : Nat} {x : Cols} {bnd : Int} {nv : Value} {O : List Int} {y : Int} {g c nq : Nat} (ht : TC w0 W b x bnd nv (O ++ [y]) (.slice (some ⟨g, 0, none⟩) (O.length + 1) c)) :
    TC w0 ((W.setCell ⟨b, 4, none⟩ (.slice (some ⟨g, 0, none⟩) O.length c)).drewN nq) b x bnd nv O (.slice (some ⟨g, 0, none⟩) O.length c) ∧ TreeTurn b (.slice (some ⟨g, 0, none⟩) (O.length + 1) c) (.slice (some ⟨g, 0, none⟩) O.length c) W ((W.setCell ⟨b, 4, none⟩ (.slice (some ⟨g, 0, none⟩) O.length c)).drewN nq) := by
  refine ⟨⟨?_, ?_, below_drewN (ht.low.setCell (p := ⟨b, 4, none⟩) ht.ge _) _, ht.ge⟩, ⟨rfl, rfl, rfl, by simp, fun k _ h1 _ => Below.heap_setCell _ _ _ _ (by show k ≠ b; exact h1), fun q e => Or.inl e⟩⟩
  · exact ht.box.set 4 _
  · exact ((own_cut ht.own).set (own_ne (own_cut ht.own) ht.box (by decide)) _).drewN _
set_option maxRecDepth 100000 in
set_option maxHeartbeats 4000000 in
theorem branches2_any (w0 w : World) (b pb n : Nat) (x : Cols) (bnd : Int) (nv : Value) (O : List Int) (hx : ColsAt w0 x) (hm : x.m.length ≤ 6) (hol : O.length ≤ 6) (hpb : BoxAt w pb #[.pointer (some ⟨b, 0, none⟩)] 188) (hne : pb ≠ b) :
    SeqTc Fence.wide n Try.prog 157 #[.pointer (some ⟨pb, 0, none⟩)] w0 b pb x bnd nv O (leftK O x.m.length) w := by
  intro l J D W ov0 hW hts hT hDT hY h0
  have hpW := hpb.below hW
  have k0 : W.cell? ⟨pb, 0, none⟩ = some (.pointer (some ⟨b, 0, none⟩)) := hpW.cell 0
  have hpl := hpW.lt
  have HLF := Lib.hid (left_any ⟨x, bnd, nv, ov0, O⟩ w0.heap.size b W ⟨hts.box, hx.below hts.low, hts.own⟩ (by show x.m.length ≤ 100; omega) (by show O.length ≤ 100; omega))
  have HTS := Lib.hid hts; have HT := Lib.hid hT; have HDT := Lib.hid hDT; have HY := Lib.hid hY; have H0 := Lib.hid h0; have HPW := Lib.hid hpW
  clear hpb hts hT hDT hY h0 hpW hx
  show CallsIn _ _ _ _ #[.func (.yield l) #[] #[], .pointer (some ⟨pb, 0, none⟩)] _ _
  refine callsIn_of_wp Try.func157 rfl trivial ?_ rfl
  simp only [Try.ntmps157, List.size_toArray, List.length_cons, List.length_nil, Nat.reduceAdd, Nat.reduceSub, Array.replicate_succ, Array.replicate_zero, List.push_toArray, List.append_toArray, List.nil_append, List.cons_append]
  gi_wp2_with (refine ⟨trivial, fun h => (by simp [Fence.wide] at h), ?_⟩; refine (callsIn_wide.2 HLF.out).mono ?_; rintro e X ⟨lv, rfl, hOl, hbX⟩; obtain ⟨la, lc, ev, hRL, -⟩ := hOl.rows int_l; subst ev)
  obtain ⟨Lf, hLf⟩ : ∃ Lf, Lf = leftK O x.m.length := ⟨_, rfl⟩
  have hOl : OwnR 1 3 intL X W.heap.size (.slice la (leftK O x.m.length).length lc) (leftK O x.m.length) := hOl
  have hLl := leftK_len O x.m.length
  rw [← hLf] at hOl hLl HY ⊢
  have HOL := Lib.hid hOl; have HBX := Lib.hid hbX; have HLE := Lib.hid hLf
  have HPX := Lib.hid (HPW.out.below hbX)
  clear hOl hRL hLf
  gi_loopw [9] (fun v9 wr => ∃ (k : Nat) (ov : Value), k ≤ Lf.length ∧ v9 = .int .i64 k ∧ J X.heap.size (k, ov) wr ∧ TC w0 wr b x bnd nv O ov ∧ OutOf W.heap.size X.heap.size ov ∧ (∀ q, (q = pb ∨ (W.heap.size ≤ q ∧ q < X.heap.size)) → wr.heap[q]? = X.heap[q]?) ∧ X.heap.size ≤ wr.heap.size) (fun v9 _ => Lf.length - (intOf v9).toNat)
  case atStart => exact ⟨0, ov0, Nat.zero_le _, rfl, H0.out X hbX, HTS.out.below hbX, fun q e => Or.inl (HTS.out.own.lt q e).2, fun q _ => rfl, Nat.le_refl _⟩
  case round =>
    obtain ⟨k, ov, hk, rfl, hJ, ht, ho, hwin, hsz⟩ := hrel
    by_cases hlt : k < Lf.length
    · have hLw := HOL.out.same (w' := wr) (fun q e => hwin q (Or.inr (HOL.out.lt q e)))
      obtain ⟨la', lc', ev, hRL, -⟩ := hLw.rows int_l
      injection ev with e1 e2 e3
      subst e1; subst e3
      clear e2
      obtain ⟨ad, rfl, had, s0⟩ := hRL.int hlt
      have HG := Lib.hid (getD_eqI (d := 0) hlt)
      obtain ⟨c, hc⟩ : ∃ c, c = Lf[k] := ⟨_, rfl⟩
      rw [← hc] at s0 HG
      obtain ⟨oa, oc, ev2, -⟩ := ht.own.rows int_l
      subst ev2
      have HPB := Lib.hid (show BoxAt wr pb #[.pointer (some ⟨b, 0, none⟩)] 188 from (hwin pb (Or.inl rfl)).trans HPX.out)
      have p0 : wr.cell? ⟨pb, 0, none⟩ = some (.pointer (some ⟨b, 0, none⟩)) := BoxAt.cell (w := wr) (b := pb) (T := 188) ((hwin pb (Or.inl rfl)).trans HPX.out) 0
      have hpbl : pb < wr.heap.size := Nat.lt_of_lt_of_le HPX.out.lt hsz
      have b4 : wr.cell? ⟨b, 4, none⟩ = some (.slice oa O.length oc) := ht.box.cell 4
      have f4 : wr.frozen? ⟨b, 4, none⟩ = false := ht.box.free 4
      have hbl := ht.box.lt
      have HTW := Lib.hid ht; have HWIN := Lib.hid hwin; have HJ := Lib.hid hJ; have HOO := Lib.hid ho
      have HOW := Lib.hid ht.own
      have HLO := Lib.hid ht.low
      have p1 : (wr.alloc (.cells #[.int .i64 c] 3)).cell? ⟨pb, 0, none⟩ = some (.pointer (some ⟨b, 0, none⟩)) := by rw [World.cell?_alloc_past _ _ _ hpbl]; exact p0
      have b5 : (wr.alloc (.cells #[.int .i64 c] 3)).cell? ⟨b, 4, none⟩ = some (.slice oa O.length oc) := by rw [World.cell?_alloc_past _ _ _ hbl]; exact b4
      clear ht hwin hJ ho hLw hRL hc
      gi_wp2
      refine wpIn_wide.2 ?_
      refine Code.wp_mono (Q := fun e a' w' => match e with
        | .normal => ∃ (gg cg : Nat) (wg : World), OwnR 1 3 intL wg w0.heap.size (.slice (some ⟨gg, 0, none⟩) (O.length + 1) cg) (O ++ [c]) ∧ wr.drew.grownBy wg (Value.slice oa O.length oc).ownBlock ∧ Below w0.heap.size wr.drew wg ∧ ((Value.slice oa O.length oc).ownBlock = some gg ∨ gg = wr.drew.heap.size + 1) ∧ a' = { tmps := #[.func (.yield l) #[] #[], .pointer (some ⟨pb, 0, none⟩), undef, .int .i64 k, .int .i64 c, u5, .pointer (some ⟨b, 0, none⟩), .slice (some ad) Lf.length lc, .int .i64 Lf.length, .int .i64 k, .bool true, .int .i64 k, .pointer (some (ad.add k)), .int .i64 c, .pointer (some ⟨b, 0, none⟩), .pointer (some ⟨b, 0, none⟩), .pointer (some ⟨b, 0, none⟩), .pointer (some ⟨b, 4, none⟩), .slice oa O.length oc, .int .i64 c, .slice (some ⟨wr.heap.size, 0, none⟩) 1 1, .slice (some ⟨gg, 0, none⟩) (O.length + 1) cg, .pointer (some ⟨b, 0, none⟩), .pointer (some ⟨b, 4, none⟩), u24, u25, u26, u27, u28, u29, u30, u31, u32, u33, u34, u35, u36, u37, u38, u39, u40, u41, u42, u43], defers := [] } ∧ w' = wg.setCell ⟨b, 4, none⟩ (.slice (some ⟨gg, 0, none⟩) (O.length + 1) cg)
        | _ => False) ?cont ?reg
      case reg =>
        go_region_law (first
          | (refine step_appI wr.drew c (by rfl) _ _ (by rfl) w0.heap.size _ O (by rfl) HOW.out.drew (by rfl) (by omega) (by have := HLO.out.size; exact this) ?_; intro gg cg wg hOg hgg hBg hat; have Bg := BoxAt.grown (w := wr.drew) HTW.out.box hgg (fun e => own_ne HOW.out HTW.out.box (by decide) e.symm); have g4 : wg.cell? ⟨b, 4, none⟩ = some (.slice oa O.length oc) := Bg.cell 4; have z4 : wg.frozen? ⟨b, 4, none⟩ = false := Bg.free 4; have lg := Bg.lt; have Pg := BoxAt.grown (w := wr.drew) HPB.out hgg (fun e => own_ne HOW.out HPB.out (by decide) e.symm); have q0 : wg.cell? ⟨pb, 0, none⟩ = some (.pointer (some ⟨b, 0, none⟩)) := Pg.cell 0; have lq := Pg.lt))
        all_goals exact ⟨gg, cg, wg, hOg, hgg, hBg, hat, rfl, rfl⟩
      case cont =>
        rintro e a' w' hq
        cases e <;> try exact hq.elim
        obtain ⟨gg, cg, wg, hOg, hgg, hBg, hat, rfl, rfl⟩ := hq
        have hA := HTW.out.app hOg hgg hBg hat
        have HA1 := Lib.hid hA.1
        have HJ1 := Lib.hid (HT.out _ _ _ _ _ _ HJ.out ⟨O, _, HTW.out, hA.1⟩ hA.2)
        have hz1 := hA.2.size
        obtain ⟨W1, hW1⟩ : ∃ W1, W1 = wg.setCell ⟨b, 4, none⟩ (.slice (some ⟨gg, 0, none⟩) (O.length + 1) cg) := ⟨_, rfl⟩
        rw [← hW1] at HA1 HJ1 hz1 ⊢
        have HO1 : Hid (OutOf W.heap.size X.heap.size (.slice (some ⟨gg, 0, none⟩) (O.length + 1) cg)) := Lib.hid (fun q e => by
          rcases hA.2.row q e with h | h
          · exact HOO.out q h
          · right; omega)
        obtain ⟨fn, tmps, assign, body, hy, hR⟩ := HY.out X.heap.size k W1 _ HBX.out.size (by omega) HJ1.out hlt (by rw [HG.out]; exact HA1.out) HO1.out
        have hwb : ∀ q, (q = pb ∨ (W.heap.size ≤ q ∧ q < X.heap.size)) → W1.heap[q]? = X.heap[q]? := fun q hq => by
          rw [hW1]
          have hqb : q ≠ b := by
            rcases hq with h | h
            · rw [h]; exact hne
            · have := HTS.out.box.lt; omega
          refine (hA.2.block q (by rcases hq with h | h <;> omega) hqb (fun e => ?_)).trans (HWIN.out q hq)
          rcases hq with h | h
          · subst h
            exact own_ne HOW.out HPB.out (by decide) e
          · have := HOO.out q e; omega
        have HWB := Lib.hid hwb
        clear hA hW1 hwb hOg hgg hBg hat p0 p1 b4 b5 f4 s0
        gi_wp2
        refine ⟨fun h => (by simp [Fence.wide] at h), hR.mono ?_⟩
        rintro e W3 ⟨⟨go, rfl, ov', hJD, ht3, ho3⟩, hw3, hf3⟩
        rcases hJD with ⟨rfl, hJ3⟩ | ⟨rfl, hJ3⟩
        · rw [HG.out] at ht3
          obtain ⟨g3, c3, ev3, -, -⟩ := ht3.own.form (by simp)
          rw [show (O ++ [c]).length = O.length + 1 by simp] at ev3
          subst ev3
          have hc3 := own_len ht3.own
          rw [show (O ++ [c]).length = O.length + 1 by simp] at hc3
          have hCUT : ∀ W, (Instr.sliceAt 75 (.slice (some ⟨g3, 0, none⟩) (O.length + 1) c3) none (some (.int .i64 (O.length : Int))) none).run Try.prog W = .ok (.slice (some ⟨g3, 0, none⟩) O.length c3) W := fun W => cut_low (P := Try.prog) 75 ⟨g3, 0, none⟩ (O.length + 1) c3 O.length intsUnder 1 intSize (by omega) W
          have HP3 : Hid (BoxAt W3 pb #[.pointer (some ⟨b, 0, none⟩)] 188) := Lib.hid ((hw3 pb (Or.inl rfl)).trans ((HWB.out pb (Or.inl rfl)).trans HPX.out))
          have p0 : W3.cell? ⟨pb, 0, none⟩ = some (.pointer (some ⟨b, 0, none⟩)) := HP3.out.cell 0
          have b4 : W3.cell? ⟨b, 4, none⟩ = some (.slice (some ⟨g3, 0, none⟩) (O.length + 1) c3) := ht3.box.cell 4
          have f4 : W3.frozen? ⟨b, 4, none⟩ = false := ht3.box.free 4
          have hbl3 := ht3.box.lt
          have hf3s := hf3.size
          have HT3 := Lib.hid ht3; have HJ3 := Lib.hid hJ3; have HO3 := Lib.hid ho3; have HW3 := Lib.hid hw3
          clear ht3 hJ3 ho3 hw3 hf3 hR hy hc3
          gi_wp2
          refine wpIn_wide.2 ?_
          go_region
          have hA := HT3.out.cut (nq := 1)
          have HT4 := Lib.hid hA.1
          have HJ4 := Lib.hid (HT.out _ _ _ _ _ _ HJ3.out ⟨_, _, HT3.out, hA.1⟩ hA.2)
          have hz4 := hA.2.size
          have hwb4 : ∀ q, (q = pb ∨ (W.heap.size ≤ q ∧ q < X.heap.size)) → ((W3.setCell ⟨b, 4, none⟩ (.slice (some ⟨g3, 0, none⟩) O.length c3)).drewN 1).heap[q]? = X.heap[q]? := fun q hq => by
            have hqb : q ≠ b := by
              rcases hq with h | h
              · rw [h]; exact hne
              · have := HTS.out.box.lt; omega
            refine (hA.2.block q (by rcases hq with h | h <;> omega) hqb (fun e => ?_)).trans ((HW3.out q hq).trans (HWB.out q hq))
            rcases hq with h | h
            · subst h
              exact own_ne HT3.out.own HP3.out (by decide) e
            · have := HO3.out q e; omega
          obtain ⟨W4, hW4⟩ : ∃ W4, W4 = (W3.setCell ⟨b, 4, none⟩ (.slice (some ⟨g3, 0, none⟩) O.length c3)).drewN 1 := ⟨_, rfl⟩
          rw [← hW4] at HT4 HJ4 hz4 hwb4
          change Exit.then _ _ _ _ ((W3.setCell ⟨b, 4, none⟩ (.slice (some ⟨g3, 0, none⟩) O.length c3)).drewN 1)
          rw [← hW4]
          have HWB4 := Lib.hid hwb4
          clear hA hW4 hwb4 p0 b4 f4 hCUT
          gi_wp2
          go_roundw
          case rel => exact ⟨k + 1, .slice (some ⟨g3, 0, none⟩) O.length c3, by omega, by go_num, HJ4.out, HT4.out, HO3.out, HWB4.out, by omega⟩
          case measure => simp [intOf] <;> omega
        · rw [HG.out] at ht3
          obtain ⟨g3, c3, ev3, -, -⟩ := ht3.own.form (by simp)
          rw [show (O ++ [c]).length = O.length + 1 by simp] at ev3
          subst ev3
          have hc3 := own_len ht3.own
          rw [show (O ++ [c]).length = O.length + 1 by simp] at hc3
          have hCUT : ∀ W, (Instr.sliceAt 75 (.slice (some ⟨g3, 0, none⟩) (O.length + 1) c3) none (some (.int .i64 (O.length : Int))) none).run Try.prog W = .ok (.slice (some ⟨g3, 0, none⟩) O.length c3) W := fun W => cut_low (P := Try.prog) 75 ⟨g3, 0, none⟩ (O.length + 1) c3 O.length intsUnder 1 intSize (by omega) W
          have HP3 : Hid (BoxAt W3 pb #[.pointer (some ⟨b, 0, none⟩)] 188) := Lib.hid ((hw3 pb (Or.inl rfl)).trans ((HWB.out pb (Or.inl rfl)).trans HPX.out))
          have p0 : W3.cell? ⟨pb, 0, none⟩ = some (.pointer (some ⟨b, 0, none⟩)) := HP3.out.cell 0
          have b4 : W3.cell? ⟨b, 4, none⟩ = some (.slice (some ⟨g3, 0, none⟩) (O.length + 1) c3) := ht3.box.cell 4
          have f4 : W3.frozen? ⟨b, 4, none⟩ = false := ht3.box.free 4
          have hbl3 := ht3.box.lt
          have hf3s := hf3.size
          have HT3 := Lib.hid ht3; have HJ3 := Lib.hid hJ3; have HO3 := Lib.hid ho3; have HW3 := Lib.hid hw3
          clear ht3 hJ3 ho3 hw3 hf3 hR hy hc3
          gi_wp2
          refine wpIn_wide.2 ?_
          go_region
          have hA := HT3.out.cut (nq := 1)
          have HT4 := Lib.hid hA.1
          have HJ4 := Lib.hid (HDT.out _ _ _ _ _ HJ3.out ⟨_, _, HT3.out, hA.1⟩ hA.2)
          have hz4 := hA.2.size
          have hwb4 : ∀ q, (q = pb ∨ (W.heap.size ≤ q ∧ q < X.heap.size)) → ((W3.setCell ⟨b, 4, none⟩ (.slice (some ⟨g3, 0, none⟩) O.length c3)).drewN 1).heap[q]? = X.heap[q]? := fun q hq => by
            have hqb : q ≠ b := by
              rcases hq with h | h
              · rw [h]; exact hne
              · have := HTS.out.box.lt; omega
            refine (hA.2.block q (by rcases hq with h | h <;> omega) hqb (fun e => ?_)).trans ((HW3.out q hq).trans (HWB.out q hq))
            rcases hq with h | h
            · subst h
              exact own_ne HT3.out.own HP3.out (by decide) e
            · have := HO3.out q e; omega
          obtain ⟨W4, hW4⟩ : ∃ W4, W4 = (W3.setCell ⟨b, 4, none⟩ (.slice (some ⟨g3, 0, none⟩) O.length c3)).drewN 1 := ⟨_, rfl⟩
          rw [← hW4] at HT4 HJ4 hz4 hwb4
          change Exit.then _ _ _ _ ((W3.setCell ⟨b, 4, none⟩ (.slice (some ⟨g3, 0, none⟩) O.length c3)).drewN 1)
          rw [← hW4]
          have HWB4 := Lib.hid hwb4
          clear hA hW4 hwb4 p0 b4 f4 hCUT
          gi_wp2
          (try simp only [Exit.inBlock, Exit.then])
          refine bodyPost_ret (results_none rfl _ _ _) rfl ?_
          exact ⟨⟨_, rfl⟩, X.heap.size, .slice (some ⟨g3, 0, none⟩) O.length c3, Or.inr HJ4.out, HT4.out⟩
    · have e : k = Lf.length := by omega
      subst e
      have HJ := Lib.hid hJ; have HTW := Lib.hid ht
      clear hJ ht hwin ho
      gi_wp2
      go_end0
      exact ⟨⟨_, rfl⟩, X.heap.size, ov, Or.inl (by rw [← HLE.out]; exact HJ.out), HTW.out⟩
end Go.Proofs.Ytpplcbpnojggcaa

namespace Go.Proofs.Ytpplcbpnojggcaa
open Go.RowKit Go.Maps Go.Shelf

set_option maxRecDepth 100000 in
set_option maxHeartbeats 4000000 in
theorem holdsV_any (t : Tree) (B b : Nat) (kind : Int) (w : World) (ht : TreeAt w B b t) (hok : ColsOk t.x) (hol : t.O.length ≤ 6) (hin : ∀ y ∈ t.O, 0 ≤ y ∧ y < t.x.m.length) :
    Calls Try.prog 141 #[.pointer (some ⟨b, 0, none⟩), .int .i64 kind] w (AggPost (.bool (holdB t.x t.bound kind t.O)) w) := by
  have HLF := Lib.hid (fun w1 h => left_any t B b w1 h (by have := hok.le; omega) (by omega))
  have HMB := Lib.hid (mins_bd hok hol)
  have HRB := Lib.hid (rest_bd hok)
  have HDEF := Lib.hid (show holdB t.x t.bound kind t.O = if kind = 1 then !((minsE t.x t.O).2 == 0) else ((minsE t.x t.O).2 == 0) && decide (t.bound ≤ (minsE t.x t.O).1 + restI t.x t.O) from rfl)
  have HRI := Lib.hid (show restI t.x t.O = (leftK t.O t.x.m.length).foldl (fun s y => s + t.x.m.getD y.toNat 0) 0 from rfl)
  obtain ⟨HB, hHB⟩ : ∃ HB, HB = holdB t.x t.bound kind t.O := ⟨_, rfl⟩
  rw [← hHB] at HDEF ⊢
  clear hHB
  obtain ⟨⟨ma, m, mc, da, T, dc⟩, bd, nv, ov, O⟩ := t
  obtain ⟨oa, oc, ev, hRS, hoc, -⟩ := ht.own.rows int_l
  have ev : ov = .slice oa O.length oc := ev
  subst ev
  have HT := Lib.hid ht
  have HMO := Lib.hid (fun W (hx : ColsAt W ⟨ma, m, mc, da, T, dc⟩) (hO : RowsAt 1 intL W oa O) => minutesOf_any ⟨ma, m, mc, da, T, dc⟩ O oa oc W hx hok hO hoc hol hin)
  unfold Cols.v at HMO
  dsimp only at HMO HMB HDEF HRI HRB
  have b0 : w.cell? ⟨b, 0, none⟩ = some (.slice ma m.length mc) := HT.out.box.cell 0
  have b1 : w.cell? ⟨b, 1, none⟩ = some (.slice da T.length dc) := HT.out.box.cell 1
  have b4 : w.cell? ⟨b, 4, none⟩ = some (.slice oa O.length oc) := HT.out.box.cell 4
  have hbl := HT.out.box.lt
  have HRS := Lib.hid hRS; have HOK := Lib.hid hok
  clear ht hok hin hRS hoc
  go_enter Try.func141, Try.ntmps141
  go_wp2_with fail
  go_region_held3 (fun w' => w'.cell? ⟨b, 0, none⟩ = some (.slice ma m.length mc) ∧ w'.cell? ⟨b, 1, none⟩ = some (.slice da T.length dc) ∧ w'.cell? ⟨b, 4, none⟩ = some (.slice oa O.length oc)) (go_keep)
    ((go_at_call 108; refine (HMO.out _ (HT.out.cols.below (Below.refl _ _).drew) HRS.out.drew).mono ?_; rintro e w8 ⟨rfl, hb8⟩; have k0 := (hb8.cell (p := ⟨b, 0, none⟩) hbl).trans b0; have k1 := (hb8.cell (p := ⟨b, 1, none⟩) hbl).trans b1; have k4 := (hb8.cell (p := ⟨b, 4, none⟩) hbl).trans b4))
  obtain ⟨mn, hmn⟩ : ∃ mn, mn = (minsE ⟨ma, m, mc, da, T, dc⟩ O).1 := ⟨_, rfl⟩
  obtain ⟨er, her⟩ : ∃ er, er = (minsE ⟨ma, m, mc, da, T, dc⟩ O).2 := ⟨_, rfl⟩
  rw [← hmn] at HMB
  rw [← hmn, ← her] at HDEF
  rw [← hmn, ← her]
  have hz8 := hb8.size
  have hB8 : Below w.heap.size w w8 := (Below.refl w.heap.size w).drew.trans hb8
  have HB8 := Lib.hid hB8
  have HT8 := Lib.hid (HT.out.below hB8)
  clear hmn her HT HMO hb8 hB8
  by_cases h1 : kind = 1
  · subst h1
    have HE := Lib.hid (show HB = !(er == 0) by rw [HDEF.out, if_pos rfl])
    go_wp2
    go_ret
    exact ⟨by rw [HE.out]; rfl, HB8.out⟩
  · have h1' : (kind == 1) = false := by simpa using h1
    have HE := Lib.hid (show HB = ((er == 0) && decide (bd ≤ mn + restI ⟨ma, m, mc, da, T, dc⟩ O)) by rw [HDEF.out, if_neg h1])
    clear h1
    go_wp2_with (go_at_call 156; refine (HLF.out _ HT8.out).mono ?_; rintro e w9 ⟨lv, rfl, hOl, hb9⟩; obtain ⟨la, lc, ev, hRL, -⟩ := hOl.rows int_l; subst ev)
    have HLI := Lib.hid (fun y h => (leftK_in O m.length y h).1)
    have HLL := Lib.hid (leftK_len O m.length)
    have HRB : Hid (∀ (L : List Int) (z : Int), z ≤ L.foldl (fun s y => s + m.getD y.toNat 0) z ∧ L.foldl (fun s y => s + m.getD y.toNat 0) z ≤ z + 10000 * L.length) := HRB
    obtain ⟨Lf, hLf⟩ : ∃ Lf, Lf = leftK O m.length := ⟨_, rfl⟩
    have HLE := Lib.hid hLf
    rw [← hLf] at HLI HLL HRI hRL ⊢
    have hLl : Lf.length ≤ m.length := HLL.out
    have hml : m.length ≤ 6 := HOK.out.le
    have HB9 := Lib.hid (HB8.out.trans (hb9.mono HB8.out.size))
    have HT9 := Lib.hid (HT8.out.below hb9)
    clear hb9 hOl hLf
    have b0 : w9.cell? ⟨b, 0, none⟩ = some (.slice ma m.length mc) := HT9.out.box.cell 0
    have b2 : w9.cell? ⟨b, 2, none⟩ = some (.int .i64 bd) := HT9.out.box.cell 2
    have hbl9 := HT9.out.box.lt
    have HMI := Lib.hid (show RowsAt 1 intL w9 ma m from HT9.out.cols.mins)
    go_loop [5, 28] (fun v i => ∃ k : Nat, k ≤ Lf.length ∧ i = .int .i64 k ∧ v = .int .i64 ((Lf.take k).foldl (fun s y => s + m.getD y.toNat 0) mn)) (fun _ i => Lf.length - (intOf i).toNat)
    case atStart => exact ⟨0, Nat.zero_le _, rfl, rfl⟩
    case round =>
      obtain ⟨k, hk, rfl, rfl⟩ := hrel
      by_cases hlt : k < Lf.length
      · obtain ⟨ad, rfl, had, s0⟩ := hRL.int hlt
        have hy := HLI.out _ (List.getElem_mem hlt)
        have HST := Lib.hid (fold_step (f := fun s y => s + m.getD y.toNat 0) (b := mn) hlt)
        have hq := HRB.out (Lf.take k) mn
        have hq9 : ((Lf.take k).length : Int) ≤ 6 := by rw [List.length_take]; omega
        obtain ⟨q, hqe⟩ : ∃ q, q = (Lf.take k).foldl (fun s y => s + m.getD y.toNat 0) mn := ⟨_, rfl⟩
        rw [← hqe] at hq HST ⊢
        obtain ⟨y, ey⟩ : ∃ y, y = Lf[k] := ⟨_, rfl⟩
        rw [← ey] at s0 hy HST
        obtain ⟨cN, rfl⟩ : ∃ cN : Nat, y = cN := ⟨y.toNat, by omega⟩
        have hcm : cN < m.length := by omega
        have hcm' : (cN : Int) < (m.length : Int) := by omega
        obtain ⟨mad, rfl, hmad, s1⟩ := HMI.out.int hcm
        have HMD := Lib.hid (show m.getD ((cN : Int)).toNat 0 = m[cN] by rw [show ((cN : Int)).toNat = cN by omega, getD_eqI hcm])
        have hmb : 0 ≤ 0 + m.getD ((cN : Int)).toNat 0 ∧ 0 + m.getD ((cN : Int)).toNat 0 ≤ 0 + 10000 * 1 := HRB.out [(cN : Int)] 0
        rw [HMD.out] at hmb
        obtain ⟨mv, hmv⟩ : ∃ mv, mv = m[cN] := ⟨_, rfl⟩
        rw [← hmv] at s1 HMD hmb
        have hmnb := HMB.out
        have hw2 : IntKind.i64.wrap (q + mv) = q + mv := IntWalk.i64_in _ (by omega)
        have HS2 : Hid ((Lf.take (k + 1)).foldl (fun s y => s + m.getD y.toNat 0) mn = q + mv) := Lib.hid (by rw [HST.out]; show q + m.getD ((cN : Int)).toNat 0 = _; rw [HMD.out])
        clear ey hmv hy hqe
        go_wp2
        go_round
        case rel => exact ⟨k + 1, by omega, by go_num, by rw [HS2.out]⟩
        case measure => simp [intOf] <;> omega
      · obtain rfl : k = Lf.length := by omega
        rw [List.take_length]
        have HQ := Lib.hid (show Lf.foldl (fun s y => s + m.getD y.toNat 0) mn = mn + restI ⟨ma, m, mc, da, T, dc⟩ O by rw [HRI.out]; exact fold_from (fun y : Int => m.getD y.toNat 0) Lf mn)
        rw [HQ.out]
        obtain ⟨q, hq⟩ : ∃ q, q = mn + restI ⟨ma, m, mc, da, T, dc⟩ O := ⟨_, rfl⟩
        rw [← hq]
        have HE2 := Lib.hid (show HB = ((er == 0) && decide (bd ≤ q)) by rw [HE.out, hq])
        clear hq hlt
        cases h3 : (er == 0)
        · go_wp2
          go_ret
          exact ⟨by rw [HE2.out, h3]; rfl, HB9.out⟩
        · go_wp2
          go_ret
          exact ⟨by rw [HE2.out, h3, Bool.true_and]; rfl, HB9.out⟩
end Go.Proofs.Ytpplcbpnojggcaa

namespace Go.Proofs.Ytpplcbpnojggcaa
open Go.RowKit Go.Maps Go.Shelf

def splE (x : Cols) (T : List Nd) (at_ : Nat) (O : List Int) : Int :=
  if (leftK O x.m.length).length = 0 ∨ (T.getD at_ noNd).nx.length ≠ (leftK O x.m.length).length then 10 else nxE T.length at_ (T.getD at_ noNd).nx
set_option maxRecDepth 100000 in
set_option maxHeartbeats 4000000 in
theorem errorOfSplit_any (t : Tree) (B b : Nat) (T : List Nd) (ta : Option Addr) (tc at_ : Nat) (w : World) (ht : TreeAt w B b t) (hnv : t.nv = .slice ta T.length tc) (hT : NodesAt w ta T) (hat : at_ < T.length) (hTl : T.length ≤ 3000) (hm : t.x.m.length ≤ 6) (hol : t.O.length ≤ 6) :
    Calls Try.prog 158 #[.pointer (some ⟨b, 0, none⟩), .int .i64 at_] w (CheckPost (splE t.x T at_ t.O) w) := by
  have HLF := Lib.hid (fun w1 h => left_any t B b w1 h (by omega) (by omega))
  have HDEF := Lib.hid (show splE t.x T at_ t.O = if (leftK t.O t.x.m.length).length = 0 ∨ (T.getD at_ noNd).nx.length ≠ (leftK t.O t.x.m.length).length then 10 else nxE T.length at_ (T.getD at_ noNd).nx from rfl)
  have HLL := Lib.hid (leftK_len t.O t.x.m.length)
  obtain ⟨SE, hSE⟩ : ∃ SE, SE = splE t.x T at_ t.O := ⟨_, rfl⟩
  rw [← hSE] at HDEF ⊢
  obtain ⟨Lf, hLf⟩ : ∃ Lf, Lf = leftK t.O t.x.m.length := ⟨_, rfl⟩
  rw [← hLf] at HDEF HLF HLL
  have hlf6 : Lf.length ≤ 6 := Nat.le_trans HLL.out hm
  clear hSE hLf HLL
  have b3 : w.cell? ⟨b, 3, none⟩ = some (.slice ta T.length tc) := by rw [← hnv]; exact ht.box.cell 3
  have hbl := ht.box.lt
  obtain ⟨ad, rfl, had, s0, s1⟩ := hT.node hat
  have HNX := Lib.hid (hT.nxt _ (List.getElem_mem hat))
  rw [nd_getD hat] at HDEF
  obtain ⟨z, ez⟩ : ∃ z, z = T[at_] := ⟨_, rfl⟩
  rw [← ez] at s0 s1 HNX HDEF
  obtain ⟨kd, na, nx, nc⟩ := z
  dsimp only at s0 s1 HNX HDEF
  have HT := Lib.hid ht
  have hatl : (at_ : Int) < (T.length : Int) := by omega
  have B3 := Lib.hid b3; have S1 := Lib.hid s1
  have hwT : IntKind.i64.wrap ((T.length : Int) - 1) = (T.length : Int) - 1 := IntWalk.i64_in _ (by omega)
  clear ht hnv hT hat hm hol ez s0
  go_enter Try.func158, Try.ntmps158
  go_wp2_with fail
  have j0 := b3; have j1 := s1
  go_region_held3 (fun w' => w'.cell? ⟨b, 3, none⟩ = some (.slice (some ad) T.length tc) ∧ w'.cell? ⟨(ad.add (at_ * 2)).block, (ad.add (at_ * 2)).off + 1, none⟩ = some (.slice na nx.length nc)) (first | exact ⟨j0, j1⟩ | go_keep)
    ((go_at_call 156; refine (HLF.out _ (HT.out.below (Below.refl _ _).drew)).mono ?_; rintro e w8 ⟨lv, rfl, hOl, hb8⟩; obtain ⟨la, lc, ev, -⟩ := hOl.rows int_l; subst ev; have HB8 : Hid (Below w.heap.size w w8) := Lib.hid ((Below.refl w.heap.size w).drew.trans hb8); have j0 := (HB8.out.cell (p := ⟨b, 3, none⟩) hbl).trans B3.out; have j1 := (HB8.out.cell (p := ⟨(ad.add (at_ * 2)).block, (ad.add (at_ * 2)).off + 1, none⟩) had).trans S1.out; clear hb8 hOl))
  by_cases h3 : Lf.length = 0
  · have HE := Lib.hid (show SE = 10 by rw [HDEF.out, if_pos (Or.inl h3)])
    rw [h3]
    go_wp2_with fail
    go_ret
    exact ⟨ret_int HE.out.symm, HB8.out⟩
  have h3' : ((Lf.length : Int) == 0) = false := by simpa using h3
  by_cases h4 : nx.length = Lf.length
  rotate_left
  · have HE := Lib.hid (show SE = 10 by rw [HDEF.out, if_pos (Or.inr h4)])
    have h4' : ((nx.length : Int) != (Lf.length : Int)) = true := by simp; omega
    clear h3 h4
    go_wp2_with fail
    go_ret
    exact ⟨ret_int HE.out.symm, HB8.out⟩
  have HND3 := Lib.hid (show SE = nxE T.length at_ nx by rw [HDEF.out, if_neg (by rintro (h | h); exact h3 h; exact h h4)])
  have h4' : ((nx.length : Int) != (Lf.length : Int)) = false := by simp; omega
  have hn6 : nx.length ≤ 6 := by omega
  have HNX8 := Lib.hid (HNX.out.below HB8.out)
  have j0 : w8.cell? ⟨b, 3, none⟩ = some (.slice (some ad) T.length tc) := (HB8.out.cell (p := ⟨b, 3, none⟩) hbl).trans B3.out
  clear h3 h4 b3 s1
  go_wp2_with fail
  go_loop [30] (fun i => ∃ k : Nat, k ≤ nx.length ∧ i = .int .i64 k ∧ Hid (nxE T.length at_ nx = nxE T.length at_ (nx.drop k))) (fun i => nx.length - (intOf i).toNat)
  case atStart => exact ⟨0, Nat.zero_le _, rfl, Lib.hid rfl⟩
  case round =>
    obtain ⟨k, hk, rfl, HQ⟩ := hrel
    by_cases hlt : k < nx.length
    · obtain ⟨nad, ena, hnad, n0⟩ := HNX8.out.int hlt
      have ena : na = some nad := ena
      subst ena
      have HST := Lib.hid (nxE_at (n := T.length) (at_ := at_) hlt)
      obtain ⟨y, hy⟩ : ∃ y, y = nx[k] := ⟨_, rfl⟩
      rw [← hy] at n0 HST
      have hkn' : (k : Int) < (nx.length : Int) := by omega
      clear hy
      cases h5 : inB y 0 ((T.length : Int) - 1)
      · have HE := Lib.hid (show SE = 6 by rw [HND3.out, HQ.out, HST.out, if_pos h5])
        have H5 := Lib.hid h5
        clear h5
        go_wp2_with (go_at_call 85; refine (isFrom_any _ _ _ _).mono ?_; rintro e w' ⟨rfl, rfl⟩; rw [H5.out])
        go_ret
        exact ⟨ret_int HE.out.symm, HB8.out⟩
      · have H5 := Lib.hid h5
        by_cases h6 : y ≤ at_
        · have HE := Lib.hid (show SE = 9 by rw [HND3.out, HQ.out, HST.out, if_neg (by rw [h5]; decide), if_pos h6])
          clear h5
          go_wp2_with (go_at_call 85; refine (isFrom_any _ _ _ _).mono ?_; rintro e w' ⟨rfl, rfl⟩; rw [H5.out])
          go_ret
          exact ⟨ret_int HE.out.symm, HB8.out⟩
        · have HQ2 := Lib.hid (show nxE T.length at_ nx = nxE T.length at_ (nx.drop (k + 1)) by rw [HQ.out, HST.out, if_neg (by rw [h5]; decide), if_neg h6])
          clear h5
          go_wp2_with (go_at_call 85; refine (isFrom_any _ _ _ _).mono ?_; rintro e w' ⟨rfl, rfl⟩; rw [H5.out])
          go_round
          case rel => exact ⟨k + 1, by omega, by go_num, HQ2⟩
          case measure => simp [intOf]; omega
    · obtain rfl : k = nx.length := by omega
      have HE := Lib.hid (show SE = 0 by rw [HND3.out, HQ.out, List.drop_of_length_le (Nat.le_refl _)]; rfl)
      go_wp2_with fail
      go_ret
      exact ⟨ret_int HE.out.symm, HB8.out⟩
set_option maxRecDepth 100000 in
set_option maxHeartbeats 4000000 in
theorem errorOfNode_any (t : Tree) (B b : Nat) (T : List Nd) (ta : Option Addr) (tc at_ : Nat) (w : World) (ht : TreeAt w B b t) (hnv : t.nv = .slice ta T.length tc) (hT : NodesAt w ta T) (hat : at_ < T.length) (hTl : T.length ≤ 3000) (hok : ColsOk t.x) (hol : t.O.length ≤ 6) (hin : ∀ y ∈ t.O, 0 ≤ y ∧ y < t.x.m.length) :
    Calls Try.prog 145 #[.pointer (some ⟨b, 0, none⟩), .int .i64 at_] w (CheckPost (ndE t.x t.bound T at_ t.O) w) := by
  have HSP := Lib.hid (errorOfSplit_any t B b T ta tc at_ w ht hnv hT hat hTl hok.le hol)
  have HHV := Lib.hid (fun kind => holdsV_any t B b kind w ht hok hol hin)
  have HDEF := Lib.hid (show ndE t.x t.bound T at_ t.O = if inB (T.getD at_ noNd).kind 0 2 = false then 15 else if (T.getD at_ noNd).kind ≠ 0 then (if holdB t.x t.bound (T.getD at_ noNd).kind t.O then 0 else 22) else splE t.x T at_ t.O from rfl)
  obtain ⟨SE, hSE⟩ : ∃ SE, SE = splE t.x T at_ t.O := ⟨_, rfl⟩
  rw [← hSE] at HDEF HSP
  obtain ⟨NE, hNE⟩ : ∃ NE, NE = ndE t.x t.bound T at_ t.O := ⟨_, rfl⟩
  rw [← hNE] at HDEF ⊢
  have b3 : w.cell? ⟨b, 3, none⟩ = some (.slice ta T.length tc) := by rw [← hnv]; exact ht.box.cell 3
  obtain ⟨ad, rfl, had, s0, s1⟩ := hT.node hat
  rw [nd_getD hat] at HDEF
  obtain ⟨kd, ek⟩ : ∃ kd, kd = T[at_].kind := ⟨_, rfl⟩
  rw [← ek] at s0 HDEF
  have hatl : (at_ : Int) < (T.length : Int) := by omega
  have HB := Lib.hid (Below.refl w.heap.size w)
  clear hSE hNE ht hnv hT hat hok hol hin ek s1
  go_enter Try.func145, Try.ntmps145
  by_cases h0 : kd = 0
  · subst h0
    have HE := Lib.hid (show NE = SE by rw [HDEF.out, if_neg (by decide), if_neg (by simp)])
    rw [HE.out]
    go_wp2_with (go_at_call 158; refine HSP.out.mono ?_; rintro e w2 ⟨rfl, hb2⟩)
    go_ret
    exact ⟨rfl, hb2⟩
  have h0' : (kd == 0) = false := by simpa using h0
  by_cases h1 : kd = 1
  · subst h1
    cases hh : holdB t.x t.bound 1 t.O
    · have HE := Lib.hid (show NE = 22 by rw [HDEF.out, if_neg (by decide), if_pos (by decide), hh]; rfl)
      have HHK := Lib.hid (HHV.out 1)
      rw [hh] at HHK
      go_wp2_with (go_at_call 141; refine HHK.out.mono ?_; rintro e w2 ⟨rfl, hb2⟩)
      go_ret
      exact ⟨ret_int HE.out.symm, hb2⟩
    · have HE := Lib.hid (show NE = 0 by rw [HDEF.out, if_neg (by decide), if_pos (by decide), hh]; rfl)
      have HHK := Lib.hid (HHV.out 1)
      rw [hh] at HHK
      go_wp2_with (go_at_call 141; refine HHK.out.mono ?_; rintro e w2 ⟨rfl, hb2⟩)
      go_ret
      exact ⟨ret_int HE.out.symm, hb2⟩
  have h1' : (kd == 1) = false := by simpa using h1
  by_cases h2 : kd = 2
  · subst h2
    cases hh : holdB t.x t.bound 2 t.O
    · have HE := Lib.hid (show NE = 22 by rw [HDEF.out, if_neg (by decide), if_pos (by decide), hh]; rfl)
      have HHK := Lib.hid (HHV.out 2)
      rw [hh] at HHK
      go_wp2_with (go_at_call 141; refine HHK.out.mono ?_; rintro e w2 ⟨rfl, hb2⟩)
      go_ret
      exact ⟨ret_int HE.out.symm, hb2⟩
    · have HE := Lib.hid (show NE = 0 by rw [HDEF.out, if_neg (by decide), if_pos (by decide), hh]; rfl)
      have HHK := Lib.hid (HHV.out 2)
      rw [hh] at HHK
      go_wp2_with (go_at_call 141; refine HHK.out.mono ?_; rintro e w2 ⟨rfl, hb2⟩)
      go_ret
      exact ⟨ret_int HE.out.symm, hb2⟩
  have h2' : (kd == 2) = false := by simpa using h2
  have HE := Lib.hid (show NE = 15 by
    rw [HDEF.out, if_pos]
    cases hi : inB kd 0 2
    · rfl
    · have := inB_iff.1 hi; omega)
  clear h0 h1 h2
  go_wp2_with fail
  go_ret
  exact ⟨ret_int HE.out.symm, HB.out⟩
end Go.Proofs.Ytpplcbpnojggcaa

namespace Go.Proofs.Ytpplcbpnojggcaa
open Go.RowKit Go.Maps Go.Shelf

theorem tc_keeps {w0 X Y : World} {b : Nat} {x : Cols} {bnd : Int} {nv : Value} {O : List Int} {ov ov' : Value} (ht : TC w0 X b x bnd nv O ov) (hy : TreeTurn b ov ov' X Y) : KeepsFrom 0 X Y :=
  ⟨hy.size, fun q o _ h hc => (hy.block q (heap_lt h) (fun e => by
      have h2 := ht.box
      unfold BoxAt at h2
      rw [← e, h] at h2; cases h2; cases hc) (fun e => by
      obtain ⟨cs, hcs⟩ := own_block ht.own q e
      rw [h] at hcs; cases hcs; cases hc)).trans h⟩
/-- What lies between two rounds of check: the pointers, the number, the results, the tree's frame. -/
structure ChI (W : World) (b N : Nat) (ov0 : Value) (at_ : Nat) (ov : Value) (p : Int × Int) (X : World) : Prop where
  ptr : BoxAt X W.heap.size #[.pointer (some ⟨b, 0, none⟩)] 188
  atb : BoxAt X (W.heap.size + 1) #[.int .i64 at_] 3
  r1 : BoxAt X (W.heap.size + 2) #[.int .i64 p.1] 3
  r2 : BoxAt X (W.heap.size + 3) #[.int .i64 p.2] 29
  pbx : BoxAt X N #[.pointer (some ⟨b, 0, none⟩)] 188
  hN : W.heap.size + 4 ≤ N
  hb : b < W.heap.size
  hov : ∀ q, ov0.ownBlock = some q → q < W.heap.size
  ovn : ∀ q, ov.ownBlock = some q → ov0.ownBlock = some q ∨ N < q
  keep : ∀ q, q < W.heap.size → q ≠ b → ov0.ownBlock ≠ some q → X.heap[q]? = W.heap[q]?
  from_ : KeepsFrom 0 W X
  lo : N + 1 ≤ X.heap.size
section
variable {W : World} {b N : Nat} {ov0 : Value} {at_ : Nat} {ov ov' : Value} {p : Int × Int} {X Y : World}
theorem ChI.kept (h : ChI W b N ov0 at_ ov p X) {row : Option Nat} {B : Nat} (hg : X.grownBy Y row) (hr : ∀ r, row = some r → B ≤ r ∧ ∃ o : Obj, X.heap[r]? = some o ∧ o.isCells = false) (hB : W.heap.size ≤ B) : ChI W b N ov0 at_ ov p Y := by
  refine ⟨box_kept h.ptr hg (fun r e => (hr r e).2), box_kept h.atb hg (fun r e => (hr r e).2), box_kept h.r1 hg (fun r e => (hr r e).2), box_kept h.r2 hg (fun r e => (hr r e).2), box_kept h.pbx hg (fun r e => (hr r e).2), h.hN, h.hb, h.hov, h.ovn, fun q hq h1 h2 => ?_, ?_, Nat.le_trans h.lo hg.size⟩
  · refine (hg.block q (Nat.lt_of_lt_of_le hq h.from_.size) (fun e => ?_)).trans (h.keep q hq h1 h2)
    have := (hr q e.symm).1
    omega
  · refine ⟨Nat.le_trans h.from_.size hg.size, fun k o _ hk hc => (hg.block k (Nat.lt_of_lt_of_le (heap_lt hk) h.from_.size) (fun e => ?_)).trans (h.from_.same k o (Nat.zero_le _) hk hc)⟩
    have h1 := (hr k e.symm).1
    have h2 := heap_lt hk
    omega
/-- The tree goes on: its box and the order's row alone are turned. -/
theorem ChI.step (h : ChI W b N ov0 at_ ov p X) (hk : ∀ q, q < X.heap.size → q ≠ b → ov.ownBlock ≠ some q → Y.heap[q]? = X.heap[q]?) (hf : KeepsFrom 0 X Y) (hn : ∀ q, ov'.ownBlock = some q → ov.ownBlock = some q ∨ X.heap.size ≤ q) : ChI W b N ov0 at_ ov' p Y := by
  have hlo := h.lo; have hN := h.hN; have hb := h.hb
  have hfz := h.from_.size
  have far : ∀ q, W.heap.size ≤ q → q ≤ N → Y.heap[q]? = X.heap[q]? := fun q h1 h2 => hk q (by omega) (by omega) (fun e => by
    rcases h.ovn q e with h3 | h3
    · have := h.hov q h3; omega
    · omega)
  refine ⟨(far _ (by omega) (by omega)).trans h.ptr, (far _ (by omega) (by omega)).trans h.atb, (far _ (by omega) (by omega)).trans h.r1, (far _ (by omega) (by omega)).trans h.r2, (far _ (by omega) (by omega)).trans h.pbx, hN, hb, h.hov, fun q e => ?_, fun q hq h1 h2 => ?_, ⟨Nat.le_trans hfz hf.size, fun q o _ h1 hc => hf.same q o (Nat.zero_le _) (h.from_.same q o (Nat.zero_le _) h1 hc) hc⟩, Nat.le_trans hlo hf.size⟩
  · rcases hn q e with h3 | h3
    · exact h.ovn q h3
    · right; omega
  · exact (hk q (by omega) h1 (fun e => by
      rcases h.ovn q e with h3 | h3
      · exact h2 h3
      · omega)).trans (h.keep q hq h1 h2)
theorem ChI.turn {w0 : World} {x : Cols} {bnd : Int} {nv : Value} {O : List Int} (h : ChI W b N ov0 at_ ov p X) (ht : TC w0 X b x bnd nv O ov) (hy : TreeTurn b ov ov' X Y) : ChI W b N ov0 at_ ov' p Y :=
  h.step hy.block (tc_keeps ht hy) hy.row
theorem ChI.drew (h : ChI W b N ov0 at_ ov p X) : ChI W b N ov0 at_ ov p X.drew := ⟨h.ptr, h.atb, h.r1, h.r2, h.pbx, h.hN, h.hb, h.hov, h.ovn, h.keep, ⟨h.from_.size, h.from_.same⟩, h.lo⟩
/-- The results are stored. -/
theorem ChI.put (h : ChI W b N ov0 at_ ov p X) (u v : Int) : ChI W b N ov0 at_ ov (u, v) ((X.setCell ⟨W.heap.size + 2, 0, none⟩ (.int .i64 u)).setCell ⟨W.heap.size + 3, 0, none⟩ (.int .i64 v)) := by
  have hN := h.hN; have hb := h.hb
  have hz : ∀ q, q ≠ W.heap.size + 2 → q ≠ W.heap.size + 3 → ((X.setCell ⟨W.heap.size + 2, 0, none⟩ (.int .i64 u)).setCell ⟨W.heap.size + 3, 0, none⟩ (.int .i64 v)).heap[q]? = X.heap[q]? := fun q h1 h2 =>
    (Below.heap_setCell _ _ _ _ (by show q ≠ W.heap.size + 3; exact h2)).trans (Below.heap_setCell _ _ _ _ (by show q ≠ W.heap.size + 2; exact h1))
  have hs1 := h.r1.set 0 (.int .i64 u)
  have hs2 := (h.r2.set_other (p := ⟨W.heap.size + 2, 0, none⟩) (by show W.heap.size + 3 ≠ W.heap.size + 2; omega) (.int .i64 u)).set 0 (.int .i64 v)
  refine ⟨(hz _ (by omega) (by omega)).trans h.ptr, (hz _ (by omega) (by omega)).trans h.atb, hs1.set_other (by show W.heap.size + 2 ≠ W.heap.size + 3; omega) _, hs2, (hz _ (by omega) (by omega)).trans h.pbx, hN, hb, h.hov, h.ovn, fun q hq h1 h2 => (hz q (by omega) (by omega)).trans (h.keep q hq h1 h2), ⟨?_, fun q o _ h1 hc => ?_⟩, ?_⟩
  · rw [World.size_setCell, World.size_setCell]; exact h.from_.size
  · have := heap_lt h1
    exact (hz q (by omega) (by omega)).trans (h.from_.same q o (Nat.zero_le _) h1 hc)
  · rw [World.size_setCell, World.size_setCell]; exact h.lo
end
/-- What check answers, and what it leaves of the tree. -/
def ChkPost (w0 W : World) (b : Nat) (x : Cols) (bnd : Int) (nv : Value) (O : List Int) (ov : Value) (p : Int × Int) (e : Ending) (W' : World) : Prop :=
  e = .returned (.tuple #[.int .i64 p.1, .int .i64 p.2]) ∧ ∃ ov', TC w0 W' b x bnd nv O ov' ∧ KeepsFrom 0 W W' ∧
    (∀ q, q < W.heap.size → q ≠ b → ov.ownBlock ≠ some q → W'.heap[q]? = W.heap[q]?) ∧ (∀ q, ov'.ownBlock = some q → ov.ownBlock = some q ∨ W.heap.size ≤ q)
end Go.Proofs.Ytpplcbpnojggcaa

namespace Go.Proofs.Ytpplcbpnojggcaa
open Go.RowKit Go.Maps Go.Shelf
attribute [local go_sem] Oper.semAt_some

theorem TC.drew {w0 X : World} {b : Nat} {x : Cols} {bnd : Int} {nv : Value} {O : List Int} {ov : Value} (h : TC w0 X b x bnd nv O ov) : TC w0 X.drew b x bnd nv O ov := ⟨h.box, h.own.drew, h.low.drew, h.ge⟩
theorem fin_put {w0 W w1 : World} {b : Nat} {x : Cols} {bnd : Int} {nv : Value} {O : List Int} {ov : Value} (ht : TC w0 w1 b x bnd nv O ov) (hB : Below W.heap.size W w1) (hov : ∀ q, ov.ownBlock = some q → q < W.heap.size) (hb : b < W.heap.size) (hw0 : w0.heap.size ≤ W.heap.size) (u v : Value) :
    TC w0 ((w1.setCell ⟨W.heap.size + 2, 0, none⟩ u).setCell ⟨W.heap.size + 3, 0, none⟩ v) b x bnd nv O ov ∧ KeepsFrom 0 W ((w1.setCell ⟨W.heap.size + 2, 0, none⟩ u).setCell ⟨W.heap.size + 3, 0, none⟩ v) ∧ ∀ q, q < W.heap.size → ((w1.setCell ⟨W.heap.size + 2, 0, none⟩ u).setCell ⟨W.heap.size + 3, 0, none⟩ v).heap[q]? = W.heap[q]? := by
  have hB2 := (hB.setCell (p := ⟨W.heap.size + 2, 0, none⟩) (by show W.heap.size ≤ W.heap.size + 2; omega) u).setCell (p := ⟨W.heap.size + 3, 0, none⟩) (by show W.heap.size ≤ W.heap.size + 3; omega) v
  refine ⟨⟨?_, ?_, ?_, ht.ge⟩, ⟨hB2.size, fun q o _ h1 _ => (hB2.block q (heap_lt h1)).trans h1⟩, fun q hq => hB2.block q hq⟩
  · exact (ht.box.set_other (p := ⟨W.heap.size + 2, 0, none⟩) (by show b ≠ W.heap.size + 2; omega) u).set_other (p := ⟨W.heap.size + 3, 0, none⟩) (by show b ≠ W.heap.size + 3; omega) v
  · exact (ht.own.set (p := ⟨W.heap.size + 2, 0, none⟩) (fun e => by have : W.heap.size + 2 < W.heap.size := hov _ e; omega) u).set (p := ⟨W.heap.size + 3, 0, none⟩) (fun e => by have : W.heap.size + 3 < W.heap.size := hov _ e; omega) v
  · exact (ht.low.setCell (p := ⟨W.heap.size + 2, 0, none⟩) (by show w0.heap.size ≤ W.heap.size + 2; omega) u).setCell (p := ⟨W.heap.size + 3, 0, none⟩) (by show w0.heap.size ≤ W.heap.size + 3; omega) v
theorem put_far {W V : World} (u v : Value) {q : Nat} (h : q < W.heap.size ∨ W.heap.size + 4 ≤ q) : ((V.setCell ⟨W.heap.size + 2, 0, none⟩ u).setCell ⟨W.heap.size + 3, 0, none⟩ v).heap[q]? = V.heap[q]? :=
  (Below.heap_setCell _ _ _ _ (by show q ≠ W.heap.size + 3; omega)).trans (Below.heap_setCell _ _ _ _ (by show q ≠ W.heap.size + 2; omega))
theorem tc_put {w0 W V : World} {b N : Nat} {ov0 : Value} {at_ : Nat} {p : Int × Int} {x : Cols} {bnd : Int} {nv : Value} {O : List Int} {ov : Value} (ht : TC w0 V b x bnd nv O ov) (h : ChI W b N ov0 at_ ov p V) (hw0 : w0.heap.size ≤ W.heap.size) (u v : Value) :
    TC w0 ((V.setCell ⟨W.heap.size + 2, 0, none⟩ u).setCell ⟨W.heap.size + 3, 0, none⟩ v) b x bnd nv O ov := by
  have hN := h.hN; have hb := h.hb
  have hne : ∀ q, ov.ownBlock = some q → q < W.heap.size ∨ W.heap.size + 4 < q := fun q e => by
    rcases h.ovn q e with h1 | h1
    · exact Or.inl (h.hov q h1)
    · right; omega
  refine ⟨?_, ?_, ?_, ht.ge⟩
  · exact (ht.box.set_other (p := ⟨W.heap.size + 2, 0, none⟩) (by show b ≠ W.heap.size + 2; omega) u).set_other (p := ⟨W.heap.size + 3, 0, none⟩) (by show b ≠ W.heap.size + 3; omega) v
  · exact (ht.own.set (p := ⟨W.heap.size + 2, 0, none⟩) (fun e => by rcases hne _ e with (h1 : W.heap.size + 2 < _) | (h1 : _ < W.heap.size + 2) <;> omega) u).set (p := ⟨W.heap.size + 3, 0, none⟩) (fun e => by rcases hne _ e with (h1 : W.heap.size + 3 < _) | (h1 : _ < W.heap.size + 3) <;> omega) v
  · exact (ht.low.setCell (p := ⟨W.heap.size + 2, 0, none⟩) (by show w0.heap.size ≤ W.heap.size + 2; omega) u).setCell (p := ⟨W.heap.size + 3, 0, none⟩) (by show w0.heap.size ≤ W.heap.size + 3; omega) v
/-- The end: the block of the deferred calls is shut. -/
theorem fin_D {w0 W X : World} {b N D : Nat} {ov0 : Value} {at_ : Nat} {p : Int × Int} {x : Cols} {bnd : Int} {nv : Value} {O : List Int} {ov : Value} (ht : TC w0 X b x bnd nv O ov) (h : ChI W b N ov0 at_ ov p X) (hw0 : w0.heap.size ≤ W.heap.size) (hD : W.heap.size + 4 ≤ D) (hKD : X.heap[D]? = some (.deferred (some []))) :
    (X.putObj D (.deferred none)).cell? ⟨W.heap.size + 2, 0, none⟩ = some (.int .i64 p.1) ∧ (X.putObj D (.deferred none)).cell? ⟨W.heap.size + 3, 0, none⟩ = some (.int .i64 p.2) ∧
    ∃ ov', TC w0 (X.putObj D (.deferred none)) b x bnd nv O ov' ∧ KeepsFrom 0 W (X.putObj D (.deferred none)) ∧ (∀ q, q < W.heap.size → q ≠ b → ov0.ownBlock ≠ some q → (X.putObj D (.deferred none)).heap[q]? = W.heap[q]?) ∧ (∀ q, ov'.ownBlock = some q → ov0.ownBlock = some q ∨ W.heap.size ≤ q) := by
  have hN := h.hN
  have b1 : BoxAt (X.putObj D (.deferred none)) (W.heap.size + 2) #[.int .i64 p.1] 3 := (World.putObj_heap_other (by omega)).trans h.r1
  have b2 : BoxAt (X.putObj D (.deferred none)) (W.heap.size + 3) #[.int .i64 p.2] 29 := (World.putObj_heap_other (by omega)).trans h.r2
  refine ⟨b1.cell 0, b2.cell 0, ov, ht.keep (fun q o h1 hc => (World.putObj_heap_other (fun e => by rw [e, hKD] at h1; cases h1; cases hc)).trans h1) (below_putObj ht.low (by omega) _), ⟨by rw [World.putObj_size]; exact h.from_.size, fun q o _ h1 hc => (World.putObj_heap_other (by have := heap_lt h1; omega)).trans (h.from_.same q o (Nat.zero_le _) h1 hc)⟩, fun q hq h1 h2 => (World.putObj_heap_other (by omega)).trans (h.keep q hq h1 h2), fun q e => ?_⟩
  rcases h.ovn q e with h1 | h1
  · exact Or.inl h1
  · right; omega
set_option maxRecDepth 100000 in
set_option maxHeartbeats 8000000 in
/-- One step of the check: the check of the branches is given. -/
theorem check_one (x : Cols) (bnd : Int) (T : List Nd) (ta : Option Addr) (tc : Nat) (hok : ColsOk x) (hTl : T.length ≤ 3000) (f : Nat) (w0 W : World) (b at_ : Nat) (O : List Int) (ov : Value) (hf : (leftK O x.m.length).length = f) (hof : O.length + f ≤ 6) (hin : ∀ y ∈ O, 0 ≤ y ∧ y < x.m.length) (hat : at_ < T.length) (ht : TC w0 W b x bnd (.slice ta T.length tc) O ov) (hT : NodesAt w0 ta T) (hx : ColsAt w0 x)
    (ih : ∀ y ∈ leftK O x.m.length, ∀ (z : Nat) (X : World) (ovk : Value), z < T.length → TC w0 X b x bnd (.slice ta T.length tc) (O ++ [y]) ovk →
      Calls Try.prog 118 #[.pointer (some ⟨b, 0, none⟩), .int .i64 z] X (ChkPost w0 X b x bnd (.slice ta T.length tc) (O ++ [y]) ovk (chk x bnd T (f - 1) z (O ++ [y])))) :
    Calls Try.prog 118 #[.pointer (some ⟨b, 0, none⟩), .int .i64 at_] W (ChkPost w0 W b x bnd (.slice ta T.length tc) O ov (chk x bnd T f at_ O)) := by
  have HEN := Lib.hid (fun W1 (h : TreeAt W1 w0.heap.size b ⟨x, bnd, .slice ta T.length tc, ov, O⟩) h2 => errorOfNode_any ⟨x, bnd, .slice ta T.length tc, ov, O⟩ w0.heap.size b T ta tc at_ W1 h rfl h2 hat hTl hok (by show O.length ≤ 6; omega) hin)
  have HER := Lib.hid (fun h => chk_err (x := x) (bd := bnd) (T := T) (f := f) (at_ := at_) (O := O) h)
  have HLF := Lib.hid (fun h h2 => chk_leaf (x := x) (bd := bnd) (T := T) (f := f) (at_ := at_) (O := O) h h2)
  have HSP : Hid (∀ f', f = f' + 1 → ndE x bnd T at_ O = 0 → (T.getD at_ noNd).kind = 0 → chk x bnd T f at_ O = fe (fun i => chk x bnd T f' ((T.getD at_ noNd).nx.getD i 0).toNat (O ++ [(leftK O x.m.length).getD i 0])) (leftK O x.m.length).length 0) := Lib.hid (fun f' hf' h1 h2 => by
    subst hf'
    show (if _ then _ else _) = _
    rw [if_neg (fun h => h h1), if_neg (fun h => h h2)])
  have HSE := Lib.hid (show ndE x bnd T at_ O = 0 → (T.getD at_ noNd).kind = 0 → (leftK O x.m.length).length ≠ 0 ∧ (T.getD at_ noNd).nx.length = (leftK O x.m.length).length ∧ ∀ y ∈ (T.getD at_ noNd).nx, 0 ≤ y ∧ y < T.length from fun h1 h2 => by
    have h3 : ndE x bnd T at_ O = splE x T at_ O := by unfold ndE; rw [h2, if_neg (by decide), if_neg (by simp)]; rfl
    rw [h3] at h1
    unfold splE at h1
    split at h1
    · omega
    · rename_i h4
      refine ⟨fun h => h4 (Or.inl h), Classical.byContradiction fun h => h4 (Or.inr h), fun y hy => ?_⟩
      have := nxE_ok h1 y hy; omega)
  obtain ⟨R, hR⟩ : ∃ R, R = chk x bnd T f at_ O := ⟨_, rfl⟩
  rw [← hR] at HER HLF HSP ⊢
  obtain ⟨NE, hNE⟩ : ∃ NE, NE = ndE x bnd T at_ O := ⟨_, rfl⟩
  rw [← hNE] at HEN HER HLF HSP HSE
  have HT := Lib.hid hT; have HX := Lib.hid hx; have HTC := Lib.hid ht; have HIH := Lib.hid ih; have HFL := Lib.hid hf; have HOF := Lib.hid hof
  have hml6 : x.m.length ≤ 6 := hok.le
  obtain ⟨ad, rfl, had, s0, s1⟩ := hT.node hat
  have HNX := Lib.hid (hT.nxt _ (List.getElem_mem hat))
  rw [nd_getD hat] at HSP HLF HSE
  obtain ⟨z, ez⟩ : ∃ z, z = T[at_] := ⟨_, rfl⟩
  rw [← ez] at HSP HLF HSE HNX s0 s1
  obtain ⟨kd, na, nx, nc⟩ := z
  dsimp only at HSP HLF HSE HNX s0 s1
  have S0 := Lib.hid s0; have S1 := Lib.hid s1
  have hatl : (at_ : Int) < (T.length : Int) := by omega
  have hbW := ht.box.lt
  have hovW := ht.own.lt
  have HOV := Lib.hid (fun q e => (hovW q e).2)
  have hw0W := ht.low.size
  have hadw : (ad.add (at_ * 2)).block < w0.heap.size := had
  clear hok hf hof hin hT hx ht ih ez hR hNE hat s0 s1 hovW had
  -- the world behind the entry
  obtain ⟨V, hV⟩ : ∃ V, V = (((W.alloc (.cells #[.pointer (some ⟨b, 0, none⟩)] 188)).alloc (.cells #[.int .i64 at_] 3)).alloc (.cells #[.int .i64 0] 3)).alloc (.cells #[.int .i64 0] 29) := ⟨_, rfl⟩
  have hVB : Below W.heap.size W V := by rw [hV]; exact ((((Below.refl W.heap.size W).alloc (Nat.le_refl _) _).alloc (by simp) _).alloc (by simp; omega) _).alloc (by simp; omega) _
  have hVZ : V.heap.size = W.heap.size + 4 := by rw [hV]; simp
  have v0 : BoxAt V W.heap.size #[.pointer (some ⟨b, 0, none⟩)] 188 := by rw [hV]; exact (((BoxAt.new W _ _).alloc _).alloc _).alloc _
  have v1 : BoxAt V (W.heap.size + 1) #[.int .i64 at_] 3 := by rw [hV]; have h := (((BoxAt.new (W.alloc (.cells #[.pointer (some ⟨b, 0, none⟩)] 188)) #[.int .i64 at_] 3).alloc (.cells #[.int .i64 0] 3)).alloc (.cells #[.int .i64 0] 29)); simpa using h
  have v2 : BoxAt V (W.heap.size + 2) #[.int .i64 0] 3 := by rw [hV]; have h := (BoxAt.new ((W.alloc (.cells #[.pointer (some ⟨b, 0, none⟩)] 188)).alloc (.cells #[.int .i64 at_] 3)) #[.int .i64 0] 3).alloc (.cells #[.int .i64 0] 29); simpa using h
  have v3 : BoxAt V (W.heap.size + 3) #[.int .i64 0] 29 := by rw [hV]; have h := BoxAt.new (((W.alloc (.cells #[.pointer (some ⟨b, 0, none⟩)] 188)).alloc (.cells #[.int .i64 at_] 3)).alloc (.cells #[.int .i64 0] 3)) #[.int .i64 0] 29; simpa using h
  refine (callsIn_wide (n := 9)).1 ?_
  refine callsIn_of_wp_marks Try.func118 rfl trivial ?_ rfl
  simp only [Try.ntmps118, List.size_toArray, List.length_cons, List.length_nil, Nat.reduceAdd, Nat.reduceSub, Array.replicate_succ, Array.replicate_zero, List.push_toArray, List.append_toArray, List.nil_append, List.cons_append]
  gi_wp2_with fail
  rw [show W.heap.size + 1 + 1 + 1 = W.heap.size + 3 from rfl, show W.heap.size + 1 + 1 = W.heap.size + 2 from rfl]
  rw [← hV]
  refine ⟨trivial, ?_⟩
  refine (callsIn_wide.2 (HEN.out V ⟨(HTC.out.below hVB).box, HX.out.below (HTC.out.below hVB).low, (HTC.out.below hVB).own⟩ (HT.out.below (HTC.out.below hVB).low))).mono ?_
  rintro e w1 ⟨rfl, hb1⟩
  have hB1 : Below W.heap.size W w1 := hVB.trans (hb1.mono (by omega))
  have HB1 := Lib.hid hB1
  have HZ1 := Lib.hid (show W.heap.size + 4 ≤ w1.heap.size by have := hb1.size; omega)
  have HTC1 := Lib.hid (HTC.out.below hB1)
  have y0 := v0.below hb1; have y1 := v1.below hb1; have y2 := v2.below hb1; have y3 := v3.below hb1
  have c0 : w1.cell? ⟨W.heap.size, 0, none⟩ = some (.pointer (some ⟨b, 0, none⟩)) := y0.cell 0
  have c1 : w1.cell? ⟨W.heap.size + 1, 0, none⟩ = some (.int .i64 at_) := y1.cell 0
  have c2 : w1.cell? ⟨W.heap.size + 2, 0, none⟩ = some (.int .i64 0) := y2.cell 0
  have c3 : w1.cell? ⟨W.heap.size + 3, 0, none⟩ = some (.int .i64 0) := y3.cell 0
  have f2 := y2.free 0; have f3 := y3.free 0
  have l0 := y0.lt; have l1 := y1.lt; have l2 := y2.lt; have l3 := y3.lt
  have n23 : ¬ W.heap.size + 2 = W.heap.size + 3 := by omega
  have n32 : ¬ W.heap.size + 3 = W.heap.size + 2 := by omega
  have Y0 := Lib.hid y0; have Y1 := Lib.hid y1; have Y2 := Lib.hid y2; have Y3 := Lib.hid y3
  clear hV hVB hVZ v0 v1 v2 v3 y0 y1 y2 y3 hb1 hB1
  by_cases hne : NE = 0
  rotate_left
  · have hne' : (NE != 0) = true := by simpa using hne
    have HE := Lib.hid (HER.out hne)
    obtain ⟨e1, e2, e3⟩ := fin_put HTC1.out HB1.out HOV.out hbW hw0W (.int .i64 at_) (.int .i64 NE)
    have E1 := Lib.hid e1; have E2 := Lib.hid e2; have E3 := Lib.hid e3
    clear hne e1 e2 e3
    gi_wp2
    refine ⟨.tuple #[.int .i64 at_, .int .i64 NE], by simp [results, Try.results118, go_sem, *], by rw [HE.out], ov, E1.out, E2.out, fun q hq _ _ => E3.out q hq, fun q e => Or.inl e⟩
  · have hne' : (NE != 0) = false := by simpa using hne
    have k0 : w1.cell? (ad.add (at_ * 2)) = some (.int .i64 kd) := (HTC1.out.low.cell hadw).trans S0.out
    have b3 : w1.cell? ⟨b, 3, none⟩ = some (.slice (some ad) T.length tc) := HTC1.out.box.cell 3
    by_cases hk : kd = 0
    rotate_left
    · have hk' : (kd != 0) = true := by simpa using hk
      have HE := Lib.hid (HLF.out hne hk)
      have d1 := fin_put HTC1.out.drew HB1.out.drew HOV.out hbW hw0W (.int .i64 0) (.int .i64 0)
      have D1 := Lib.hid d1
      clear hne hk d1
      gi_wp2
      refine wpIn_wide.2 ?_
      go_region
      gi_wp2
      refine ⟨.tuple #[.int .i64 0, .int .i64 0], by simp [results, Try.results118, go_sem, *], by rw [HE.out], ov, D1.out.1, D1.out.2.1, fun q hq _ _ => D1.out.2.2 q hq, fun q e => Or.inl e⟩
    · subst hk
      obtain ⟨hL0, hnL, hnb⟩ := HSE.out hne rfl
      obtain ⟨f', hf'⟩ : ∃ f', f = f' + 1 := ⟨f - 1, by have := HFL.out; omega⟩
      have HR0 := Lib.hid (HSP.out f' hf' hne rfl)
      have HIH2 : Hid (∀ y ∈ leftK O x.m.length, ∀ (z : Nat) (X : World) (ovk : Value), z < T.length → TC w0 X b x bnd (.slice (some ad) T.length tc) (O ++ [y]) ovk →
          Calls Try.prog 118 #[.pointer (some ⟨b, 0, none⟩), .int .i64 z] X (ChkPost w0 X b x bnd (.slice (some ad) T.length tc) (O ++ [y]) ovk (chk x bnd T f' z (O ++ [y])))) := Lib.hid (by have h := HIH.out; rw [hf'] at h; exact h)
      have hol6 : O.length ≤ 6 := by have := HOF.out; omega
      obtain ⟨L, hL⟩ : ∃ L, L = leftK O x.m.length := ⟨_, rfl⟩
      rw [← hL] at hL0 hnL HR0 HIH2
      have HLE := Lib.hid hL
      obtain ⟨g, hg⟩ : ∃ g : Nat → Int × Int, g = fun i => chk x bnd T f' (nx.getD i 0).toNat (O ++ [L.getD i 0]) := ⟨_, rfl⟩
      have HG := Lib.hid hg
      rw [← hg] at HR0
      have HNB := Lib.hid hnb; have HNL := Lib.hid hnL
      clear HIH HSE HSP HLF HER hne hf' hL hg hnb hnL hL0
      gi_wp2
      refine wpIn_wide.2 ?_
      go_region
      have c0 : w1.drew.cell? ⟨W.heap.size, 0, none⟩ = some (.pointer (some ⟨b, 0, none⟩)) := c0
      gi_wp2_with (refine ⟨trivial, ?_⟩; refine (callsIn_wide.2 (branches_any b _)).mono ?_; rintro e W5 ⟨rfl, rfl⟩)
      obtain ⟨V6, hV6⟩ : ∃ V6, V6 = w1.drew.alloc (.cells #[.pointer (some ⟨b, 0, none⟩)] 188) := ⟨_, rfl⟩
      have hz6 : V6.heap.size = w1.heap.size + 1 := by rw [hV6]; simp
      have hB6 : Below w1.heap.size w1 V6 := by rw [hV6]; exact (Below.refl _ w1).drew.alloc (Nat.le_refl _) _
      have hp6 : BoxAt V6 w1.heap.size #[.pointer (some ⟨b, 0, none⟩)] 188 := by rw [hV6]; exact BoxAt.new w1.drew _ _
      change Code.wpIn _ _ _ _ _ _ (w1.drew.alloc (.cells #[.pointer (some ⟨b, 0, none⟩)] 188))
      rw [← hV6]
      clear hV6
      have hz1 := HZ1.out
      have hBW6 : Below W.heap.size W V6 := HB1.out.trans (hB6.mono HB1.out.size)
      have HCI : Hid (∀ X, Below V6.heap.size V6 X → ChI W b w1.heap.size ov at_ ov (0, 0) X) := Lib.hid (fun X hX =>
        ⟨(Y0.out.below hB6).below hX, (Y1.out.below hB6).below hX, (Y2.out.below hB6).below hX, (Y3.out.below hB6).below hX, hp6.below hX, hz1, hbW, HOV.out, fun q e => Or.inl e, fun q hq _ _ => (hX.block q (by have := hBW6.size; omega)).trans (hBW6.block q hq), ⟨by have := hBW6.size; have := hX.size; omega, fun q o _ h _ => (hX.block q (by have := hBW6.size; have := heap_lt h; omega)).trans ((hBW6.block q (heap_lt h)).trans h)⟩, by have := hX.size; omega⟩)
      have HTS6 := Lib.hid (HTC1.out.below hB6)
      have hbr := branches2_any w0 V6 b w1.heap.size 8 x bnd (.slice (some ad) T.length tc) O HX.out hml6 hol6 hp6 (by omega)
      rw [← HLE.out] at hbr
      clear hB6 hp6 hBW6 c0 c1 c2 c3 f2 f3 l0 l1 l2 l3 k0 b3
      refine wpIn_rangeFunc_tc rfl (by omega) (gf := 157) (lb := #[.pointer (some ⟨w1.heap.size, 0, none⟩)]) rfl trivial (enters_of Try.func157 (by kernel_rfl) rfl) (w0 := w0) (b := b) (pb := w1.heap.size) (x := x) (bnd := bnd) (nv := .slice (some ad) T.length tc) (O := O) (L := L) hbr (by omega) rfl
        (fun K s X => Hid (R = fe g (L.length - s.1) s.1) ∧ ChI W b w1.heap.size ov at_ s.2 (0, 0) X)
        (fun K s X Y row hs hg hr => ⟨hs.1, hs.2.kept hg hr (by omega)⟩)
        (fun K X => ∃ (p : Int × Int) (ovx : Value), Hid (R = p) ∧ (∃ cs, BoxAt X b cs 164 ∧ cs[4]? = some ovx) ∧ ChI W b w1.heap.size ov at_ ovx p X)
        (fun K s X Y row hs hg hr => by obtain ⟨p, ovx, h1, ⟨cs, h2, h3⟩, h4⟩ := hs; exact ⟨p, ovx, h1, ⟨cs, box_kept h2 hg (fun r e => (hr r e).2), h3⟩, h4.kept hg hr (by omega)⟩)
        (fun K k ov1 ov2 X Y hs ht hy => by obtain ⟨O2, O3, hta, htb⟩ := ht; exact ⟨hs.1, hs.2.turn hta hy⟩)
        (fun K ov1 ov2 X Y hs ht hy => by
          obtain ⟨O2, O3, hta, htb⟩ := ht
          obtain ⟨p, ovx, h1, ⟨cs, h2, h3⟩, h4⟩ := hs
          rw [box_uni h2 hta.box] at h3
          have h3 : ov1 = ovx := by simpa using h3
          subst h3
          exact ⟨p, ov2, h1, ⟨_, htb.box, rfl⟩, h4.turn hta hy⟩)
        HTS6.out (fun X hX => ⟨Lib.hid HR0.out, HCI.out X hX⟩)
        (fun k => { tmps := #[.pointer (some ⟨b, 0, none⟩), .int .i64 at_, .pointer (some ⟨W.heap.size, 0, none⟩), .pointer (some ⟨W.heap.size + 1, 0, none⟩), .pointer (some ⟨W.heap.size + 2, 0, none⟩), .pointer (some ⟨W.heap.size + 3, 0, none⟩), .int .i64 NE, .int .i64 k, undef, undef, .pointer (some ⟨b, 0, none⟩), .int .i64 at_, .int .i64 NE, .int .i64 NE, .bool false, undef, undef, .pointer (some ⟨b, 0, none⟩), .pointer (some ⟨b, 0, none⟩), .pointer (some ⟨b, 3, none⟩), .slice (some ad) T.length tc, .int .i64 at_, .pointer (some (ad.add (at_ * 2))), .pointer (some (ad.add (at_ * 2))), .int .i64 0, .bool false, .pointer (some ⟨b, 0, none⟩), .func (.func 157) #[] #[.pointer (some ⟨w1.heap.size, 0, none⟩)], .int .i64 k, undef, undef, undef, undef, undef, undef, undef, undef, undef, undef, undef, undef, undef, undef, undef, undef, undef, undef, undef, undef], defers := [] }) ?assign ?body ?done ?ret
      case assign =>
        intro l k W K hK
        gi_wp2
        exact hK
      case body =>
        rintro l K k X ovk hK hKX ⟨HQ, hI⟩ hlen htk hovk
        dsimp only at HQ hI
        have hkn : k < nx.length := by have := HNL.out; omega
        have hyL : L.getD k 0 ∈ leftK O x.m.length := by rw [← HLE.out, getD_eqI hlen]; exact List.getElem_mem _
        obtain ⟨nad, ena, hnad, n0⟩ := HNX.out.int hkn
        subst ena
        have hzb := HNB.out _ (List.getElem_mem hkn)
        have HGK := Lib.hid (show g k = chk x bnd T f' nx[k].toNat (O ++ [L.getD k 0]) by rw [HG.out]; dsimp only; rw [getD_eqI hkn])
        obtain ⟨zi, ez⟩ : ∃ zi, zi = nx[k] := ⟨_, rfl⟩
        rw [← ez] at n0 hzb HGK
        obtain ⟨z, rfl⟩ : ∃ z : Nat, zi = z := ⟨zi.toNat, by omega⟩
        have hzl : z < T.length := by omega
        rw [show ((z : Int)).toNat = z by omega] at HGK
        obtain ⟨y, hy⟩ : ∃ y, y = L.getD k 0 := ⟨_, rfl⟩
        rw [← hy] at hyL HGK htk ⊢
        have HCALL := Lib.hid (HIH2.out y (by rw [HLE.out]; exact hyL) z X.drew ovk hzl htk.drew)
        obtain ⟨pp, hpp⟩ : ∃ pp, pp = chk x bnd T f' z (O ++ [y]) := ⟨_, rfl⟩
        rw [← hpp] at HCALL HGK
        obtain ⟨p1, p2⟩ := pp
        have HFE := Lib.hid (show fe g (L.length - k) k = if (g k).2 ≠ 0 then g k else fe g (L.length - (k + 1)) (k + 1) by rw [show L.length - k = (L.length - (k + 1)) + 1 by omega]; rfl)
        rw [HGK.out] at HFE
        dsimp only at HFE
        have hkn' : (k : Int) < (nx.length : Int) := by omega
        have q0 : X.drew.cell? ⟨W.heap.size, 0, none⟩ = some (.pointer (some ⟨b, 0, none⟩)) := hI.ptr.cell 0
        have q1 : X.drew.cell? ⟨W.heap.size + 1, 0, none⟩ = some (.int .i64 at_) := hI.atb.cell 0
        have q2 : X.drew.cell? ⟨b, 3, none⟩ = some (.slice (some ad) T.length tc) := htk.box.cell 3
        have q3 : X.drew.cell? ⟨(ad.add (at_ * 2)).block, (ad.add (at_ * 2)).off + 1, none⟩ = some (.slice (some nad) nx.length nc) := (htk.low.cell (p := ⟨(ad.add (at_ * 2)).block, (ad.add (at_ * 2)).off + 1, none⟩) hadw).trans S1.out
        have hnadb : (nad.add k).block < w0.heap.size := by rw [add_block]; exact hnad
        have q4 : X.drew.cell? (nad.add k) = some (.int .i64 z) := (htk.low.cell hnadb).trans n0
        have N0 := Lib.hid n0; have HI := Lib.hid hI; have HTK := Lib.hid htk; have HOK := Lib.hid hovk
        clear hI htk hovk n0 hzb hyL hpp ez hy
        refine wpIn_block ?_
        gi_wp2
        refine wpIn_round_held (S := fun Z : World => Z.cell? ⟨W.heap.size, 0, none⟩ = some (.pointer (some ⟨b, 0, none⟩)) ∧ Z.cell? ⟨W.heap.size + 1, 0, none⟩ = some (.int .i64 at_) ∧ Z.cell? ⟨b, 3, none⟩ = some (.slice (some ad) T.length tc) ∧ Z.cell? ⟨(ad.add (at_ * 2)).block, (ad.add (at_ * 2)).off + 1, none⟩ = some (.slice (some nad) nx.length nc) ∧ Z.cell? (nad.add k) = some (.int .i64 z)) (by kernel_rfl) (by rfl) (fun ⟨_, _, h⟩ => h) ⟨q0, q1, q2, q3, q4⟩ (fun hSS => ?_)
        refine takeL (i := 0) (v := .pointer (some ⟨b, 0, none⟩)) rfl (by kernel_rfl) (by kernel_rfl) (by kernel_rfl) (fun _ _ _ h => h) (Or.inl ⟨by rfl, fun V9 h9 => by dsimp only at h9; go_simp⟩) (by assumption) ?_
        try simp only [Act.put, List.setIfInBounds_toArray, List.set_cons_zero, List.set_cons_succ]
        refine takeL (i := 1) (v := .pointer (some ⟨b, 0, none⟩)) rfl (by kernel_rfl) (by kernel_rfl) (by kernel_rfl) (fun _ _ _ h => h) (Or.inl ⟨by rfl, fun V9 h9 => by dsimp only at h9; go_simp⟩) (by assumption) ?_
        try simp only [Act.put, List.setIfInBounds_toArray, List.set_cons_zero, List.set_cons_succ]
        refine takeL (i := 2) (v := .pointer (some ⟨b, 0, none⟩)) rfl (by kernel_rfl) (by kernel_rfl) (by kernel_rfl) (fun _ _ _ h => h) (Or.inl ⟨by rfl, fun V9 h9 => by dsimp only at h9; go_simp⟩) (by assumption) ?_
        try simp only [Act.put, List.setIfInBounds_toArray, List.set_cons_zero, List.set_cons_succ]
        refine takeL (i := 3) (v := .pointer (some ⟨b, 3, none⟩)) rfl (by kernel_rfl) (by kernel_rfl) (by kernel_rfl) (fun _ _ _ h => h) (Or.inl ⟨by rfl, fun V9 h9 => by dsimp only at h9; go_simp⟩) (by assumption) ?_
        try simp only [Act.put, List.setIfInBounds_toArray, List.set_cons_zero, List.set_cons_succ]
        refine takeL (i := 4) (v := .slice (some ad) T.length tc) rfl (by kernel_rfl) (by kernel_rfl) (by kernel_rfl) (fun _ _ _ h => h) (Or.inl ⟨by rfl, fun V9 h9 => by dsimp only at h9; go_simp⟩) (by assumption) ?_
        try simp only [Act.put, List.setIfInBounds_toArray, List.set_cons_zero, List.set_cons_succ]
        refine takeL (i := 5) (v := .int .i64 at_) rfl (by kernel_rfl) (by kernel_rfl) (by kernel_rfl) (fun _ _ _ h => h) (Or.inl ⟨by rfl, fun V9 h9 => by dsimp only at h9; go_simp⟩) (by assumption) ?_
        try simp only [Act.put, List.setIfInBounds_toArray, List.set_cons_zero, List.set_cons_succ]
        refine takeL (i := 6) (v := .pointer (some (ad.add (at_ * 2)))) rfl (by kernel_rfl) (by kernel_rfl) (by kernel_rfl) (fun _ _ _ h => h) (Or.inl ⟨by rfl, fun V9 h9 => by dsimp only at h9; go_simp⟩) (by assumption) ?_
        try simp only [Act.put, List.setIfInBounds_toArray, List.set_cons_zero, List.set_cons_succ]
        refine takeL (i := 7) (v := .pointer (some ⟨(ad.add (at_ * 2)).block, (ad.add (at_ * 2)).off + 1, none⟩)) rfl (by kernel_rfl) (by kernel_rfl) (by kernel_rfl) (fun _ _ _ h => h) (Or.inl ⟨by rfl, fun V9 h9 => by dsimp only at h9; go_simp⟩) (by assumption) ?_
        try simp only [Act.put, List.setIfInBounds_toArray, List.set_cons_zero, List.set_cons_succ]
        refine takeL (i := 8) (v := .slice (some nad) nx.length nc) rfl (by kernel_rfl) (by kernel_rfl) (by kernel_rfl) (fun _ _ _ h => h) (Or.inl ⟨by rfl, fun V9 h9 => by dsimp only at h9; go_simp⟩) (by assumption) ?_
        try simp only [Act.put, List.setIfInBounds_toArray, List.set_cons_zero, List.set_cons_succ]
        refine takeL (i := 9) (v := .int .i64 k) rfl (by kernel_rfl) (by kernel_rfl) (by kernel_rfl) (fun _ _ _ h => h) (Or.inl ⟨by rfl, fun V9 h9 => by dsimp only at h9; go_simp⟩) (by assumption) ?_
        try simp only [Act.put, List.setIfInBounds_toArray, List.set_cons_zero, List.set_cons_succ]
        refine takeL (i := 10) (v := .pointer (some (nad.add k))) rfl (by kernel_rfl) (by kernel_rfl) (by kernel_rfl) (fun _ _ _ h => h) (Or.inl ⟨by rfl, fun V9 h9 => by dsimp only at h9; go_simp⟩) (by assumption) ?_
        try simp only [Act.put, List.setIfInBounds_toArray, List.set_cons_zero, List.set_cons_succ]
        refine takeL (i := 11) (v := .int .i64 z) rfl (by kernel_rfl) (by kernel_rfl) (by kernel_rfl) (fun _ _ _ h => h) (Or.inl ⟨by rfl, fun V9 h9 => by dsimp only at h9; go_simp⟩) (by assumption) ?_
        try simp only [Act.put, List.setIfInBounds_toArray, List.set_cons_zero, List.set_cons_succ]
        refine wpAnyH_ready (rs := [12]) (by kernel_rfl) (by simp) (consL rfl (fun K9 hK9 => ?_) AllReadyH.nil)
        go_simp
        refine HCALL.out.mono ?_
        rintro e V ⟨rfl, ov', htV, hfV, hkV, hoV⟩
        have hIV : ChI W b w1.heap.size ov at_ ov' (0, 0) V := HI.out.step (Y := V) hkV ⟨hfV.size, hfV.same⟩ hoV
        have r0 : V.cell? ⟨W.heap.size, 0, none⟩ = some (.pointer (some ⟨b, 0, none⟩)) := hIV.ptr.cell 0
        have r1 : V.cell? ⟨W.heap.size + 1, 0, none⟩ = some (.int .i64 at_) := hIV.atb.cell 0
        have r2 : V.cell? ⟨b, 3, none⟩ = some (.slice (some ad) T.length tc) := htV.box.cell 3
        have r3 : V.cell? ⟨(ad.add (at_ * 2)).block, (ad.add (at_ * 2)).off + 1, none⟩ = some (.slice (some nad) nx.length nc) := (htV.low.cell (p := ⟨(ad.add (at_ * 2)).block, (ad.add (at_ * 2)).off + 1, none⟩) hadw).trans S1.out
        have r4 : V.cell? (nad.add k) = some (.int .i64 z) := (htV.low.cell hnadb).trans N0.out
        have g2 : V.cell? ⟨W.heap.size + 2, 0, none⟩ = some (.int .i64 0) := hIV.r1.cell 0
        have g3 : V.cell? ⟨W.heap.size + 3, 0, none⟩ = some (.int .i64 0) := hIV.r2.cell 0
        have f2 := hIV.r1.free 0; have f3 := hIV.r2.free 0
        have l2 := hIV.r1.lt; have l3 := hIV.r2.lt
        have hXz : V6.heap.size + 2 ≤ X.heap.size := by omega
        have hWIN : Hid (∀ q, (q = w1.heap.size ∨ (V6.heap.size + 2 ≤ q ∧ q < K)) → V.heap[q]? = X.heap[q]?) := Lib.hid (fun q hq => hkV q (by show q < X.heap.size; omega) (by omega) (fun e => by
          rcases HI.out.ovn q e with h | h
          · have := HI.out.hov q h; omega
          · rcases hq with h2 | h2
            · omega
            · have := HOK.out q e; omega))
        have hKF : Hid (KeepsFrom V6.heap.size X V) := Lib.hid ⟨hfV.size, fun q o _ h hc => hfV.same q o (Nat.zero_le _) h hc⟩
        have hOO : Hid (OutOf (V6.heap.size + 2) K ov') := Lib.hid (fun q e => by
          rcases hoV q e with h | h
          · exact HOK.out q h
          · have h : X.heap.size ≤ q := h
            right; omega)
        have HIV := Lib.hid hIV; have HTV := Lib.hid htV
        clear htV hfV hkV hoV hIV q0 q1 q2 q3 q4 hSS
        refine hK9.out _ _ ⟨r0, r1, r2, r3, r4⟩ (fun hSS => ?_)
        clear hK9 K9
        refine takeL (i := 13) (v := .tuple #[.int .i64 p1, .int .i64 p2]) rfl (by kernel_rfl) (by kernel_rfl) (by kernel_rfl) (fun _ _ _ h => h) (Or.inl ⟨by rfl, fun V9 h9 => by dsimp only at h9; go_simp⟩) (by assumption) ?_
        try simp only [Act.put, List.setIfInBounds_toArray, List.set_cons_zero, List.set_cons_succ]
        refine takeL (i := 14) (v := .int .i64 p1) rfl (by kernel_rfl) (by kernel_rfl) (by kernel_rfl) (fun _ _ _ h => h) (Or.inl ⟨by rfl, fun V9 h9 => by dsimp only at h9; go_simp⟩) (by assumption) ?_
        try simp only [Act.put, List.setIfInBounds_toArray, List.set_cons_zero, List.set_cons_succ]
        refine takeL (i := 15) (v := .int .i64 p2) rfl (by kernel_rfl) (by kernel_rfl) (by kernel_rfl) (fun _ _ _ h => h) (Or.inl ⟨by rfl, fun V9 h9 => by dsimp only at h9; go_simp⟩) (by assumption) ?_
        try simp only [Act.put, List.setIfInBounds_toArray, List.set_cons_zero, List.set_cons_succ]
        refine takeL (i := 16) (v := .int .i64 p1) rfl (by kernel_rfl) (by kernel_rfl) (by kernel_rfl) (fun _ _ _ h => h) (Or.inl ⟨by rfl, fun V9 h9 => by dsimp only at h9; go_simp⟩) (by assumption) ?_
        try simp only [Act.put, List.setIfInBounds_toArray, List.set_cons_zero, List.set_cons_succ]
        refine takeL (i := 17) (v := .int .i64 p2) rfl (by kernel_rfl) (by kernel_rfl) (by kernel_rfl) (fun _ _ _ h => h) (Or.inl ⟨by rfl, fun V9 h9 => by dsimp only at h9; go_simp⟩) (by assumption) ?_
        try simp only [Act.put, List.setIfInBounds_toArray, List.set_cons_zero, List.set_cons_succ]
        refine wpAnyH_done (by kernel_rfl) ?_ _
        by_cases hp2 : p2 = 0
        · subst hp2
          have HQ2 := Lib.hid (show R = fe g (L.length - (k + 1)) (k + 1) by rw [HQ.out, HFE.out, if_neg (by simp)])
          gi_wp2
          exact ⟨hKF.out, ⟨ov', ⟨HQ2, HIV.out⟩, HTV.out, hOO.out⟩, hWIN.out⟩
        · have hp2' : (p2 != 0) = true := by simpa using hp2
          have HE := Lib.hid (show R = (p1, p2) by rw [HQ.out, HFE.out, if_pos hp2])
          clear hp2
          gi_wp2
          refine ⟨⟨by rw [World.size_setCell, World.size_setCell]; exact hKF.out.size, fun q o hq h hc => (put_far _ _ (Or.inr (by omega))).trans (hKF.out.same q o hq h hc)⟩, ⟨ov', ⟨(p1, p2), ov', HE, ⟨_, (tc_put HTV.out HIV.out hw0W _ _).box, rfl⟩, HIV.out.put p1 p2⟩, tc_put HTV.out HIV.out hw0W _ _, hOO.out⟩, fun q hq => (put_far _ _ (Or.inr (by omega))).trans (hWIN.out q hq)⟩
      case done =>
        rintro D K X ovf hD htf ⟨HQ, hI⟩ hKD
        dsimp only at HQ hI
        have HE := Lib.hid (show R = (0, 0) by rw [HQ.out, Nat.sub_self]; rfl)
        have g2 : X.cell? ⟨W.heap.size + 2, 0, none⟩ = some (.int .i64 0) := hI.r1.cell 0
        have g3 : X.cell? ⟨W.heap.size + 3, 0, none⟩ = some (.int .i64 0) := hI.r2.cell 0
        have f2 := hI.r1.free 0; have f3 := hI.r2.free 0
        have l2 := hI.r1.lt; have l3 := hI.r2.lt
        have hKD2 : ((X.setCell ⟨W.heap.size + 2, 0, none⟩ (.int .i64 0)).setCell ⟨W.heap.size + 3, 0, none⟩ (.int .i64 0)).heap[D]? = some (.deferred (some [])) := (put_far _ _ (Or.inr (by omega))).trans hKD
        have FD := Lib.hid (fin_D (tc_put htf hI hw0W (.int .i64 0) (.int .i64 0)) (hI.put 0 0) hw0W (by omega) hKD2)
        have HKD2 := Lib.hid hKD2
        clear hI htf hKD hKD2
        gi_wp2
        refine ⟨by simp, .inl ⟨_, _, rfl, run_takeDeferred HKD2.out, ?_⟩⟩
        obtain ⟨z1, z2, z3⟩ := FD.out
        refine ⟨.tuple #[.int .i64 0, .int .i64 0], by simp [results, Try.results118, go_sem, *], by rw [HE.out], z3⟩
      case ret =>
        rintro D K X ovf hD htf ⟨⟨p1, p2⟩, ovx, HE, ⟨cs, hbx, hcs⟩, hI⟩ hKD
        rw [box_uni hbx htf.box] at hcs
        have hcs : ovf = ovx := by simpa using hcs
        subst hcs
        have FD := Lib.hid (fin_D htf hI hw0W (by omega) hKD)
        have HKD := Lib.hid hKD
        clear hI htf hKD hbx
        refine wpIn_ret ?_
        refine ⟨by simp, .inl ⟨_, _, rfl, run_takeDeferred HKD.out, ?_⟩⟩
        obtain ⟨z1, z2, z3⟩ := FD.out
        refine ⟨.tuple #[.int .i64 p1, .int .i64 p2], by simp [results, Try.results118, go_sem, *], by rw [HE.out], z3⟩
end Go.Proofs.Ytpplcbpnojggcaa

namespace Go.Proofs.Ytpplcbpnojggcaa
open Go.RowKit Go.Maps Go.Shelf

theorem check_any (x : Cols) (bnd : Int) (T : List Nd) (ta : Option Addr) (tc : Nat) (hok : ColsOk x) (hTl : T.length ≤ 3000) (w0 : World) (b : Nat) (hT : NodesAt w0 ta T) (hx : ColsAt w0 x) : ∀ (f : Nat) (W : World) (at_ : Nat) (O : List Int) (ov : Value), (leftK O x.m.length).length = f → O.length + f ≤ 6 → (∀ y ∈ O, 0 ≤ y ∧ y < x.m.length) → at_ < T.length → TC w0 W b x bnd (.slice ta T.length tc) O ov →
    Calls Try.prog 118 #[.pointer (some ⟨b, 0, none⟩), .int .i64 at_] W (ChkPost w0 W b x bnd (.slice ta T.length tc) O ov (chk x bnd T f at_ O)) := by
  intro f
  induction f with
  | zero =>
    intro W at_ O ov hf hof hin hat ht
    exact check_one x bnd T ta tc hok hTl 0 w0 W b at_ O ov hf hof hin hat ht hT hx (fun y hy => by rw [List.eq_nil_of_length_eq_zero hf] at hy; cases hy)
  | succ f ih =>
    intro W at_ O ov hf hof hin hat ht
    exact check_one x bnd T ta tc hok hTl (f + 1) w0 W b at_ O ov hf hof hin hat ht hT hx (fun y hy z X ovk hz htk => by
      have h3 := left_more hy
      obtain ⟨h4, -⟩ := leftK_in O x.m.length y hy
      refine ih X z (O ++ [y]) ovk (by omega) (by rw [List.length_append, List.length_singleton]; omega) (fun u hu => ?_) hz htk
      rcases List.mem_append.1 hu with hu | hu
      · exact hin u hu
      · rw [List.mem_singleton.1 hu]; exact h4)
/-- What CheckColourTree answers. -/
def cctF (x : Cols) (bd : Int) (T : List Nd) : Int × Int := if colsErr x ≠ 0 then (0, colsErr x) else ctR x bd T
set_option maxRecDepth 100000 in
set_option maxHeartbeats 4000000 in
theorem checkColourTree_any (x : Cols) (bd : Int) (T : List Nd) (ta : Option Addr) (tc : Nat) (w : World) (hT : NodesAt w ta T) (hx : ColsAt w x) (hm : x.m.length ≤ maxLen) (hTT : x.T.length ≤ maxLen) :
    Calls Try.prog 55 #[x.v, .int .i64 bd, .slice ta T.length tc] w (TwoPost (cctF x bd T) w) := by
  have hb0 := (Below.refl w.heap.size w).alloc (Nat.le_refl _) (.cells #[.slice x.ma x.m.length x.mc, .slice x.da x.T.length x.dc] 78)
  have HCC := Lib.hid (checkColours_any x (w.alloc (.cells #[.slice x.ma x.m.length x.mc, .slice x.da x.T.length x.dc] 78)) (hx.below hb0) hm hTT)
  have HBX := Lib.hid (BoxAt.new w #[.slice x.ma x.m.length x.mc, .slice x.da x.T.length x.dc] 78)
  have k0 := HBX.out.cell 0; have k1 := HBX.out.cell 1
  simp at k0 k1
  have HCH := Lib.hid (fun (h0 : colsErr x = 0) (h1 : 1 ≤ T.length) (h3 : T.length ≤ 3000) w0 b W hT2 hx2 ht => check_any x bd T ta tc (cols_right h0) h3 w0 b hT2 hx2 x.m.length W 0 [] (.slice none 0 0) (leftK_nil _) (by have := (cols_right h0).le; simpa using this) (fun y hy => by cases hy) h1 ht)
  have HDEF := Lib.hid (show cctF x bd T = if colsErr x ≠ 0 then (0, colsErr x) else ctR x bd T from rfl)
  have HDR := Lib.hid (show ctR x bd T = if inB bd 0 1000000 = false then (0, 2) else if inB (T.length : Int) 1 3000 = false then (0, 10) else chk x bd T x.m.length 0 [] from rfl)
  obtain ⟨R, hR⟩ : ∃ R, R = cctF x bd T := ⟨_, rfl⟩
  rw [← hR] at HDEF ⊢
  have HT := Lib.hid hT; have HX := Lib.hid hx; have HB0 := Lib.hid hb0
  clear hT hx hm hTT hR hb0
  show Calls _ _ #[.agg #[.slice x.ma x.m.length x.mc, .slice x.da x.T.length x.dc], .int .i64 bd, .slice ta T.length tc] _ _
  have HCC : Hid (Calls Try.prog 49 #[.agg #[.slice x.ma x.m.length x.mc, .slice x.da x.T.length x.dc]] (w.alloc (.cells #[.slice x.ma x.m.length x.mc, .slice x.da x.T.length x.dc] 78)) (CheckPost (colsErr x) (w.alloc (.cells #[.slice x.ma x.m.length x.mc, .slice x.da x.T.length x.dc] 78)))) := HCC
  go_enter Try.func55, Try.ntmps55
  by_cases h0 : colsErr x = 0
  rotate_left
  · have h0' : (colsErr x != 0) = true := by simpa using h0
    have HE := Lib.hid (show R = (0, colsErr x) by rw [HDEF.out, if_pos h0])
    clear h0
    go_wp2_with (go_at_call 49; refine HCC.out.mono ?_; rintro e w1 ⟨rfl, hb1⟩)
    go_ret2
    exact ⟨two_to HE.out, HB0.out.trans (hb1.mono HB0.out.size)⟩
  have H0 := Lib.hid h0
  have HD2 := Lib.hid (show R = ctR x bd T by rw [HDEF.out, if_neg (fun h => h h0)])
  cases h1 : inB bd 0 1000000
  · have HE := Lib.hid (show R = (0, 2) by rw [HD2.out, HDR.out, if_pos h1])
    have H1 := Lib.hid h1
    clear h0 h1
    go_wp2_with (first
      | (go_at_call 49; refine HCC.out.mono ?_; rintro e w1 ⟨rfl, hb1⟩; rw [H0.out]; have HB1 := Lib.hid (HB0.out.trans (hb1.mono HB0.out.size)); clear hb1)
      | (go_at_call 85; refine (isFrom_any _ _ _ _).mono ?_; rintro e w' ⟨rfl, rfl⟩; rw [H1.out]))
    go_ret2
    exact ⟨two_to HE.out, HB1.out⟩
  have H1 := Lib.hid h1
  cases h2 : inB (T.length : Int) 1 3000
  · have HE := Lib.hid (show R = (0, 10) by rw [HD2.out, HDR.out, if_neg (by rw [h1]; decide), if_pos h2])
    have H2 := Lib.hid h2
    clear h0 h1 h2
    go_wp2_with (first
      | (go_at_call 49; refine HCC.out.mono ?_; rintro e w1 ⟨rfl, hb1⟩; rw [H0.out]; have HB1 := Lib.hid (HB0.out.trans (hb1.mono HB0.out.size)); clear hb1)
      | (go_at_call 85; refine (isFrom_any _ _ _ _).mono ?_; rintro e w' ⟨rfl, rfl⟩; first | rw [H1.out] | rw [H2.out]))
    go_ret2
    exact ⟨two_to HE.out, HB1.out⟩
  have HE := Lib.hid (show R = chk x bd T x.m.length 0 [] by rw [HD2.out, HDR.out, if_neg (by rw [h1]; decide), if_neg (by rw [h2]; decide)])
  have H2 := Lib.hid h2
  have hin := inB_iff.1 h2
  have HCH2 := Lib.hid (fun w0 b W hT2 hx2 ht => HCH.out h0 (by omega) (by omega) w0 b W hT2 hx2 ht)
  clear HCH h0 h1 h2 hin HDEF HDR HD2
  go_wp2_with (first
    | (go_at_call 49; refine HCC.out.mono ?_; rintro e w1 ⟨rfl, hb1⟩; rw [H0.out]; have c0 : w1.cell? ⟨w.heap.size, 0, none⟩ = some (.slice x.ma x.m.length x.mc) := (HBX.out.below hb1).cell 0; have c1 : w1.cell? ⟨w.heap.size, 1, none⟩ = some (.slice x.da x.T.length x.dc) := (HBX.out.below hb1).cell 1; have HB1 := Lib.hid (HB0.out.trans (hb1.mono HB0.out.size)); clear hb1)
    | (go_at_call 85; refine (isFrom_any _ _ _ _).mono ?_; rintro e w' ⟨rfl, rfl⟩; first | rw [H1.out] | rw [H2.out]))
  have hW1 : TC w1 (w1.alloc (.cells #[.slice x.ma x.m.length x.mc, .slice x.da x.T.length x.dc, .int .i64 bd, .slice ta T.length tc, .slice none 0 0] 164)) w1.heap.size x bd (.slice ta T.length tc) [] (.slice none 0 0) :=
    ⟨BoxAt.new w1 _ _, OwnR.nil _ _, (Below.refl _ w1).alloc (Nat.le_refl _) _, Nat.le_refl _⟩
  refine (HCH2.out w1 w1.heap.size (w1.alloc (.cells #[.slice x.ma x.m.length x.mc, .slice x.da x.T.length x.dc, .int .i64 bd, .slice ta T.length tc, .slice none 0 0] 164)) (HT.out.below HB1.out) (HX.out.below HB1.out) hW1).mono ?_
  rintro e w2 ⟨rfl, ov', htc, -, -, -⟩
  rw [← HE.out]
  go_wp2
  go_ret2
  exact ⟨rfl, HB1.out.trans (htc.low.mono HB1.out.size)⟩
end Go.Proofs.Ytpplcbpnojggcaa

namespace Go.Proofs.Ytpplcbpnojggcaa
open Go.ChangeShapes Go.WideShapes Go.Deep Go.Joins Go.RowKit

theorem cellsNode : Try.prog.cellsOf 170 = 2 := by kernel_rfl
set_option maxRecDepth 100000
section
variable {H : Type} {enc : TypeId × Value → H} {w : World}
theorem open_nd1 {n : Nat} {p : Addr} {cs : List Value} {x : DataW H × List MemPlace} (hc : w.cells? 0 p 2 = some cs) (h : DataW.trod enc Try.prog w 0 (fun _ => true) true n 170 cs = some x) :
    ∃ y : Nd, (∀ j, j < 2 → w.cell? (fld p j) = some ((ndV y).getD j (.int .i64 0))) ∧ RowsAt 1 intL w y.a y.nx ∧ (y.a = none → y.c = 0) ∧ y.nx.length ≤ y.c ∧ y.c ≤ maxLen := by
  obtain ⟨_, hl, hat⟩ := World.cells?_some hc
  obtain ⟨y0, y1, m, _, _, h0, h1⟩ := trod_struct2 Try.underlying170 h
  match cs, hl with
  | [c0, c1], _ =>
    obtain ⟨x0, rfl, w0⟩ := int_read (n := m) (c := c0) (y := y0) (by simpa [cellsInt] using h0)
    obtain ⟨a1, n1, l1, rfl, p1, p2, p3, p4, -⟩ := open_nums (n := m) (v := c1) (x := y1) (by simpa [cellsInts9, cellsInt] using h1)
    refine ⟨⟨x0, a1, l1, n1⟩, fun j hj => ?_, p3, p4, p1, p2⟩
    have := hat j hj
    rw [fld_add] at this
    rw [this]
    have hj2 : j = 0 ∨ j = 1 := by omega
    rcases hj2 with rfl | rfl <;> rfl
theorem open_tree {n : Nat} {v : Value} {x : DataW H × List MemPlace} (h : DataW.trod enc Try.prog w 0 (fun _ => true) true n 89 [v] = some x) :
    ∃ (a : Option Addr) (c : Nat) (l : List Nd), v = .slice a l.length c ∧ l.length ≤ c ∧ c ≤ maxLen ∧ NodesAt w a l ∧ (a = none → c = 0) ∧ ∀ y ∈ l, (y.a = none → y.c = 0) ∧ y.nx.length ≤ y.c ∧ y.c ≤ maxLen := by
  rcases open_slice Try.underlying89 h with ⟨e, _⟩ | ⟨a, len, cap, m, k, D, Pl, e, _, hl, hm, hmm, _, hi⟩
  · simp only [List.cons.injEq, and_true] at e
    exact ⟨none, 0, [], e, Nat.le_refl _, Nat.zero_le _, ⟨fun k hk => absurd hk (Nat.not_lt_zero _), fun y hy => by cases hy⟩, fun _ => rfl, fun y hy => by cases hy⟩
  · simp only [List.cons.injEq, and_true] at e
    have hmc : m = cap := by simpa using hmm
    subst hmc
    have hex : ∀ i, i < m → ∃ y : Nd, (∀ j, j < 2 → w.cell? (fld (a.add (i * 2)) j) = some ((ndV y).getD j (.int .i64 0))) ∧ RowsAt 1 intL w y.a y.nx ∧ (y.a = none → y.c = 0) ∧ y.nx.length ≤ y.c ∧ y.c ≤ maxLen := fun i him => by
      obtain ⟨cs', hc', ht'⟩ := hi i him
      rw [cellsNode] at hc'
      exact open_nd1 hc' ht'
    haveI : Inhabited Nd := ⟨noNd⟩
    obtain ⟨X, hX⟩ := choose_lt hex
    refine ⟨some a, m, (List.range len).map X, by simpa using e, by simpa using hl, hm, ⟨fun k hk => ?_, fun y hy => ?_⟩, fun e => (by cases e), fun y hy => ?_⟩
    · have hk' : k < len := by simpa using hk
      rw [range_get len X hk]
      have h1 := (hX k (by omega)).1
      exact ⟨a, rfl, by have := cell_lt (h1 0 (by decide)); rwa [fld_block, add_block] at this, h1⟩
    · obtain ⟨i, hi', rfl⟩ := List.mem_map.1 hy
      exact (hX i (by have := List.mem_range.1 hi'; omega)).2.1
    · obtain ⟨i, hi', rfl⟩ := List.mem_map.1 hy
      exact (hX i (by have := List.mem_range.1 hi'; omega)).2.2
end
end Go.Proofs.Ytpplcbpnojggcaa

namespace Go.Proofs.Ytpplcbpnojggcaa
open Go.RowKit Go.Maps Go.Shelf

set_option maxRecDepth 100000 in
set_option maxHeartbeats 8000000 in
theorem trees_walk (x : Cols) (bd : Int) (a : Option Addr) (T : List Nd) (tc : Nat) (w : World) (hx : ColsAt w x) (hin : ColsIn x) (hT : NodesAt w a T) (hlc : T.length ≤ tc) (hcm : tc ≤ maxLen) (hok : ∀ y ∈ T, (y.a = none → y.c = 0) ∧ y.nx.length ≤ y.c ∧ y.c ≤ maxLen) :
    Calls Try.prog 10 #[x.v, .int .i64 bd, .slice a T.length tc] w (AggPost (.bool true) w) := by
  have hl := Nat.le_trans hlc hcm
  have hmm := Nat.le_trans hin.mlen hin.mcap
  have hTT := Nat.le_trans hin.tlen hin.tcap
  have hsz : ∀ r ∈ x.T, r.l.length ≤ maxLen := fun r hr => Nat.le_trans (hin.tok r hr).2.1 (hin.tok r hr).2.2.1
  have hnl : ∀ z ∈ T, z.nx.length ≤ maxLen := fun z hz => Nat.le_trans (hok z hz).2.1 (hok z hz).2.2
  have HFW := Lib.hid (fun W h => few_any x W h hmm hTT hsz)
  have HSL := Lib.hid (fun W h => slim_any T a tc W h hl hnl)
  have HRC := Lib.hid (fun W h => refCheckColours_any x W h hmm hTT hsz)
  have HCP0 := Lib.hid (fun (hf : fewP x) W h => copyColours_any x W h (Nat.le_trans hf.1 (by decide)) (Nat.le_trans hf.2.2.1 (by decide)) hin.mnil (fun r hr => Nat.le_trans (hf.2.2.2 r hr) (by decide)) (fun r hr => (hin.tok r hr).1))
  have HCT0 := Lib.hid (fun (hs : T.length ≤ 3002 ∧ ∀ z ∈ T, z.nx.length ≤ 8) W h => copyTree_any T a tc W h hs.1 (fun z hz => Nat.le_trans (hs.2 z hz) (by decide)) (fun z hz => (hok z hz).1))
  have HPT : Hid (∀ (y : Cols) (T' : List Nd) (hs : SameC x y) (ht : SameN T T') a4 c4 W, NodesAt W a4 T' → ColsAt W y → Calls Try.prog 55 #[y.v, .int .i64 bd, .slice a4 T'.length c4] W (TwoPost (cctF x bd T) W)) := Lib.hid (fun y T' hs ht a4 c4 W h h2 => by
    have h9 := checkColourTree_any y bd T' a4 c4 W h h2 (by rw [hs.m]; exact hmm) (by rw [hs.len]; exact hTT)
    have e : cctF y bd T' = cctF x bd T := by unfold cctF; rw [hs.err, ctR_same hs ht]
    rw [e] at h9; exact h9)
  have HRT := Lib.hid (fun (h0 : colsErr x = 0) W h h2 => refCheckColourTree_any x bd T a tc W (cols_right h0) hnl h h2)
  have HDEF := Lib.hid (show cctF x bd T = if colsErr x ≠ 0 then (0, colsErr x) else ctR x bd T from rfl)
  obtain ⟨FP, hFP⟩ : ∃ FP, FP = fewP x := ⟨_, rfl⟩
  obtain ⟨SP, hSP⟩ : ∃ SP, SP = (T.length ≤ 3002 ∧ ∀ z ∈ T, z.nx.length ≤ 8) := ⟨_, rfl⟩
  have HFX := Lib.hid (show FP → fewP x from fun h => by rw [hFP] at h; exact h)
  have HSX := Lib.hid (show SP → (T.length ≤ 3002 ∧ ∀ z ∈ T, z.nx.length ≤ 8) from fun h => by rw [hSP] at h; exact h)
  rw [← hFP] at HFW
  rw [← hSP] at HSL
  have HX := Lib.hid hx; have HT := Lib.hid hT
  have hbx := BoxAt.new w #[.slice x.ma x.m.length x.mc, .slice x.da x.T.length x.dc] 78
  have hbw := (Below.refl w.heap.size w).alloc (Nat.le_refl _) (.cells #[.slice x.ma x.m.length x.mc, .slice x.da x.T.length x.dc] 78)
  have BX0 := Lib.hid hbx; have HB0 := Lib.hid hbw
  clear hFP hSP hl hmm hTT hsz hnl hx hin hT hlc hcm hok hbx hbw
  obtain ⟨ce, hce⟩ : ∃ ce, ce = colsErr x := ⟨_, rfl⟩
  rw [← hce] at HRC HDEF HRT
  obtain ⟨R, hR⟩ : ∃ R, R = cctF x bd T := ⟨_, rfl⟩
  rw [← hR] at HDEF HPT
  obtain ⟨r1, r2⟩ := R
  clear hce hR
  show Calls _ _ #[.agg #[.slice x.ma x.m.length x.mc, .slice x.da x.T.length x.dc], .int .i64 bd, .slice a T.length tc] _ _
  have HFW : Hid (∀ W, ColsAt W x → Calls Try.prog 44 #[.agg #[.slice x.ma x.m.length x.mc, .slice x.da x.T.length x.dc]] W (FewPost FP W)) := HFW
  have HRC : Hid (∀ W, ColsAt W x → Calls Try.prog 48 #[.agg #[.slice x.ma x.m.length x.mc, .slice x.da x.T.length x.dc]] W (CheckPost ce W)) := HRC
  have HCP0 : Hid (∀ (hf : fewP x) W, ColsAt W x → Calls Try.prog 46 #[.agg #[.slice x.ma x.m.length x.mc, .slice x.da x.T.length x.dc]] W (CCPost x W)) := HCP0
  have HRT : Hid (∀ (h0 : ce = 0) W, NodesAt W a T → ColsAt W x → Calls Try.prog 54 #[.agg #[.slice x.ma x.m.length x.mc, .slice x.da x.T.length x.dc], .int .i64 bd, .slice a T.length tc] W (TwoPost (ctR x bd T) W)) := HRT
  go_enter Try.func10, Try.ntmps10
  go_wp2_with (first
    | (go_at_call 17; refine (awake_any _).mono ?_; rintro e w1 ⟨rfl, hb1⟩; have HB1 := Lib.hid (HB0.out.trans (hb1.mono HB0.out.size)); have BX1 := Lib.hid (BX0.out.below hb1); have k0 : w1.cell? ⟨w.heap.size, 0, none⟩ = some (.slice x.ma x.m.length x.mc) := BX1.out.cell 0; have k1 : w1.cell? ⟨w.heap.size, 1, none⟩ = some (.slice x.da x.T.length x.dc) := BX1.out.cell 1; clear hb1)
    | (go_at_call 44; refine (HFW.out _ (HX.out.below HB1.out)).mono ?_; rintro e w2 ⟨⟨bb, rfl, hbb⟩, hb2⟩; have HB2 := Lib.hid (HB1.out.trans (hb2.mono HB1.out.size)); have BX2 := Lib.hid (BX1.out.below hb2); have k0 : w2.cell? ⟨w.heap.size, 0, none⟩ = some (.slice x.ma x.m.length x.mc) := BX2.out.cell 0; have k1 : w2.cell? ⟨w.heap.size, 1, none⟩ = some (.slice x.da x.T.length x.dc) := BX2.out.cell 1; clear hb2; cases bb)
    | (go_at_call 58; refine (HSL.out _ (HT.out.below HB2.out)).mono ?_; rintro e w3 ⟨⟨b3, rfl, hb3⟩, rfl⟩; cases b3))
  · go_ret
    exact ⟨rfl, HB2.out⟩
  · go_ret
    exact ⟨rfl, HB2.out⟩
  have HF9 := Lib.hid (HFX.out (by first | exact hbb | exact hbb rfl | simpa using hbb))
  have HS9 := Lib.hid (HSX.out (by first | exact hb3 | exact hb3 rfl | simpa using hb3))
  clear hbb hb3
  have HCP := Lib.hid (fun W h => HCP0.out HF9.out W h)
  have HCT := Lib.hid (fun W h => HCT0.out HS9.out W h)
  clear HCP0 HCT0 HFX HSX HFW HSL
  refine (HCP.out _ (HX.out.below HB2.out)).mono ?_
  rintro e w4 ⟨y, rfl, hs4, hc4, hb4⟩
  have HS4 := Lib.hid hs4
  have HC4 := Lib.hid hc4
  have HB4 := Lib.hid (HB2.out.trans (hb4.mono HB2.out.size))
  have BX4 := Lib.hid (BX2.out.below hb4)
  have k0 : w4.cell? ⟨w.heap.size, 0, none⟩ = some (.slice x.ma x.m.length x.mc) := BX4.out.cell 0
  have k1 : w4.cell? ⟨w.heap.size, 1, none⟩ = some (.slice x.da x.T.length x.dc) := BX4.out.cell 1
  clear hb4 hs4 hc4
  by_cases h0 : ce = 0
  · subst h0
    have HRT0 := Lib.hid (fun W h h2 => HRT.out rfl W h h2)
    have HQQ := Lib.hid (show (r1, r2) = ctR x bd T by rw [HDEF.out, if_neg (by simp)])
    rw [← HQQ.out] at HRT0
    clear HRT HDEF HQQ
    go_wp2_with (first
      | (go_at_call 56; refine (HCT.out _ (HT.out.below HB4.out)).mono ?_; rintro e w5 ⟨a5, c5, T', rfl, hs5, hn5, hb5⟩; have HN5 := Lib.hid hn5; have HST := Lib.hid hs5; have HC5 := Lib.hid (HC4.out.below hb5); have HB5 := Lib.hid (HB4.out.trans (hb5.mono HB4.out.size)); have BX5 := Lib.hid (BX4.out.below hb5); have k0 : w5.cell? ⟨w.heap.size, 0, none⟩ = some (.slice x.ma x.m.length x.mc) := BX5.out.cell 0; have k1 : w5.cell? ⟨w.heap.size, 1, none⟩ = some (.slice x.da x.T.length x.dc) := BX5.out.cell 1; clear hb5 hs5 hn5)
      | (go_at_call 55; refine (HPT.out y T' HS4.out HST.out a5 c5 _ HN5.out HC5.out).mono ?_; rintro e w6 ⟨rfl, hb6⟩; have HB6 := Lib.hid (HB5.out.trans (hb6.mono HB5.out.size)); have BX6 := Lib.hid (BX5.out.below hb6); have k0 : w6.cell? ⟨w.heap.size, 0, none⟩ = some (.slice x.ma x.m.length x.mc) := BX6.out.cell 0; have k1 : w6.cell? ⟨w.heap.size, 1, none⟩ = some (.slice x.da x.T.length x.dc) := BX6.out.cell 1; clear hb6)
      | (go_at_call 48; refine (HRC.out _ (HX.out.below HB6.out)).mono ?_; rintro e w7 ⟨rfl, hb7⟩; have HB7 := Lib.hid (HB6.out.trans (hb7.mono HB6.out.size)); have BX7 := Lib.hid (BX6.out.below hb7); have k0 : w7.cell? ⟨w.heap.size, 0, none⟩ = some (.slice x.ma x.m.length x.mc) := BX7.out.cell 0; have k1 : w7.cell? ⟨w.heap.size, 1, none⟩ = some (.slice x.da x.T.length x.dc) := BX7.out.cell 1; clear hb7)
      | (go_at_call 54; refine (HRT0.out _ (HT.out.below HB7.out) (HX.out.below HB7.out)).mono ?_; rintro e w8 ⟨rfl, hb8⟩; have HB8 := Lib.hid (HB7.out.trans (hb8.mono HB7.out.size)); have BX8 := Lib.hid (BX7.out.below hb8); have k0 : w8.cell? ⟨w.heap.size, 0, none⟩ = some (.slice x.ma x.m.length x.mc) := BX8.out.cell 0; have k1 : w8.cell? ⟨w.heap.size, 1, none⟩ = some (.slice x.da x.T.length x.dc) := BX8.out.cell 1; clear hb8))
    go_ret
    exact ⟨rfl, HB8.out⟩
  · have h0x : (ce != 0) = true := by simpa using h0
    have HRV := Lib.hid (show ((r1, r2) : Int × Int) = (0, ce) by rw [HDEF.out, if_pos h0])
    clear HRT HDEF h0
    go_wp2_with (first
      | (go_at_call 56; refine (HCT.out _ (HT.out.below HB4.out)).mono ?_; rintro e w5 ⟨a5, c5, T', rfl, hs5, hn5, hb5⟩; have HN5 := Lib.hid hn5; have HST := Lib.hid hs5; have HC5 := Lib.hid (HC4.out.below hb5); have HB5 := Lib.hid (HB4.out.trans (hb5.mono HB4.out.size)); have BX5 := Lib.hid (BX4.out.below hb5); have k0 : w5.cell? ⟨w.heap.size, 0, none⟩ = some (.slice x.ma x.m.length x.mc) := BX5.out.cell 0; have k1 : w5.cell? ⟨w.heap.size, 1, none⟩ = some (.slice x.da x.T.length x.dc) := BX5.out.cell 1; clear hb5 hs5 hn5)
      | (go_at_call 55; refine (HPT.out y T' HS4.out HST.out a5 c5 _ HN5.out HC5.out).mono ?_; rintro e w6 ⟨rfl, hb6⟩; rw [HRV.out]; have HB6 := Lib.hid (HB5.out.trans (hb6.mono HB5.out.size)); have BX6 := Lib.hid (BX5.out.below hb6); have k0 : w6.cell? ⟨w.heap.size, 0, none⟩ = some (.slice x.ma x.m.length x.mc) := BX6.out.cell 0; have k1 : w6.cell? ⟨w.heap.size, 1, none⟩ = some (.slice x.da x.T.length x.dc) := BX6.out.cell 1; clear hb6)
      | (go_at_call 48; refine (HRC.out _ (HX.out.below HB6.out)).mono ?_; rintro e w7 ⟨rfl, hb7⟩; have HB7 := Lib.hid (HB6.out.trans (hb7.mono HB6.out.size)); have BX7 := Lib.hid (BX6.out.below hb7); have k0 : w7.cell? ⟨w.heap.size, 0, none⟩ = some (.slice x.ma x.m.length x.mc) := BX7.out.cell 0; have k1 : w7.cell? ⟨w.heap.size, 1, none⟩ = some (.slice x.da x.T.length x.dc) := BX7.out.cell 1; clear hb7))
    go_ret
    exact ⟨rfl, HB7.out⟩
end Go.Proofs.Ytpplcbpnojggcaa
