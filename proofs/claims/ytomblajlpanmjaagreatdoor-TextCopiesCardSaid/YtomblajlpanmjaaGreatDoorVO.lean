/-
  Levels: the contract.
-/
import Derived.Test.YtomblajlpanmjaaGreatDoorVY
import Derived.Test.YtomblajlpanmjaaGreatDoorShelf
namespace Go.Proofs.YtomblajlpanmjaaGreatDoor
open Go.RowKit Go.Maps Go.Shelf
attribute [local go_sem] Oper.semAt_some

def lowS (s : ByteArray) : ByteArray := ⟨(Lib.toLowerA s.data.toList).toArray⟩
theorem lowS_size (s : ByteArray) : (lowS s).size = s.size := by
  show (Lib.toLowerA s.data.toList).toArray.size = s.data.size
  simp [Lib.toLowerA]
/-- What patterns keep. -/
structure PatOk (x : Pat) : Prop where
  len : x.ds.length = x.ls.length + 1
  short : x.ls.length ≤ 16
  digs : ∀ k, -1 ≤ x.ds.getD k 0 ∧ x.ds.getD k 0 ≤ 9
/-- What lies between two rounds. -/
structure LvC (w w1 : World) (fn : Nat → Pat) (ss : ByteArray) (k : Nat) (Ds : List Nat) (W : World) : Prop where
  kept : KeptBut (w.heap.size + 1) w1 W
  row : RowX W (w.heap.size + 1) (lvTo fn ss k)
  mks : Marks (w.heap.size + 3) Ds W
def lvMu (n : Nat) (a : Act) (_ : World) : Nat := n - (intOf (a.tmps.getD 21 undef)).toNat
set_option maxRecDepth 100000 in
set_option maxHeartbeats 1600000 in
theorem levels_any (g n : Nat) (fn : Nat → Pat) (m1 m2 : Option Nat) (le ri : Int) (s : ByteArray) (w : World) (hP : PRow w g n fn n) (hok : ∀ j, j < n → PatOk (fn j)) (hn : n ≤ 1000) (hs : s.size ≤ 1000) (hascii : ∀ (j : Nat) (b : UInt8), s.data.toList[j]? = some b → b.toNat < 128) :
    Calls Tryz.prog 156 #[.agg #[.slice (some ⟨g, 0, none⟩) n n, .map m1, .map m2, .int .i64 le, .int .i64 ri], .string s] w fun e w' => ∃ h, e = .returned (.slice (some ⟨h, 0, none⟩) (s.size + 1) (s.size + 1)) ∧ RowX w' h (lvTo fn (lowS s) n) ∧ w.heap.size ≤ h ∧ Below w.heap.size w w' := by
  have HP := Lib.hid hP
  have HOK := Lib.hid hok
  have hlv := Lib.hid (lvTo_ok (fn := fn) (s := lowS s) (m := n) (fun j hj k => ((hok j hj).digs k).2))
  clear hP hok
  obtain ⟨ss, hss⟩ : ∃ ss, ss = lowS s := ⟨_, rfl⟩
  have hssz : ss.size = s.size := by rw [hss]; exact lowS_size s
  obtain ⟨W0, hW0⟩ : ∃ W0, W0 = w.alloc (.cells #[.slice (some ⟨g, 0, none⟩) n n, .map m1, .map m2, .int .i64 le, .int .i64 ri] 109) := ⟨_, rfl⟩
  obtain ⟨W1, hW1⟩ : ∃ W1, W1 = W0.alloc (.cells (madeCells #[.int .i64 0] (s.size + 1)) 3) := ⟨_, rfl⟩
  obtain ⟨W2, hW2⟩ : ∃ W2, W2 = W1.alloc (.cells #[.slice (some ⟨w.heap.size + 1, 0, none⟩) (s.size + 1) (s.size + 1)] 63) := ⟨_, rfl⟩
  have z0 : W0.heap.size = w.heap.size + 1 := by rw [hW0]; simp
  have z1 : W1.heap.size = w.heap.size + 1 + 1 := by rw [hW1]; simp [z0]
  have z2 : W2.heap.size = w.heap.size + 3 := by rw [hW2]; simp [z1]
  have n0 : W2.heap[w.heap.size]? = some (.cells #[.slice (some ⟨g, 0, none⟩) n n, .map m1, .map m2, .int .i64 le, .int .i64 ri] 109 (0, 0)) := by
    rw [hW2, hW1, hW0]; exact heap_keep (heap_keep (heap_new w _))
  have n1 : RowX W2 (w.heap.size + 1) (lvTo fn ss 0) := by
    have h := heap_keep (o := .cells #[.slice (some ⟨w.heap.size + 1, 0, none⟩) (s.size + 1) (s.size + 1)] 63) (heap_new W0 (.cells (madeCells #[.int .i64 0] (s.size + 1)) 3))
    rw [z0, ← hW1, ← hW2] at h
    unfold RowX
    rw [h]
    congr 2
    apply Array.ext'
    rw [toList_madeCells_one]
    show _ = vals (List.replicate (ss.size + 1) 0)
    rw [hssz]
    simp [vals]
  have n2 : W2.heap[w.heap.size + 1 + 1]? = some (.cells #[.slice (some ⟨w.heap.size + 1, 0, none⟩) (s.size + 1) (s.size + 1)] 63 (0, 0)) := by
    have h := heap_new W1 (.cells #[.slice (some ⟨w.heap.size + 1, 0, none⟩) (s.size + 1) (s.size + 1)] 63); rwa [z1, ← hW2] at h
  have hl2 : Below w.heap.size w W2 := by rw [hW2, hW1, hW0]; exact (((Below.refl _ _).alloc (Nat.le_refl _) _).alloc (by simp) _).alloc (by simp; omega) _
  have HTL := Lib.hid (fun W => Tryz.strings_ToLower_ascii s W (by omega) hascii)
  have hmk := fun W => (show (Instr.makeSlice 63 (.int .i64 ((s.size : Int) + 1)) (.int .i64 ((s.size : Int) + 1))).run Tryz.prog W = .ok (.slice (some ⟨W.heap.size, 0, none⟩) (s.size + 1) (s.size + 1)) (W.alloc (.cells (madeCells #[.int .i64 0] (s.size + 1)) 3)) from
    run_make_row' (P := Tryz.prog) 63 3 (.int .i64 0) 8 Tryz.underlying63 info3 rfl .i64 .i64 (s.size + 1) (by omega) (by omega) W)
  rw [← hss] at hlv
  have HSS := Lib.hid hss
  have HSZ := Lib.hid hssz
  have HW := Lib.hid hW2
  have HW1 := Lib.hid hW1
  have HW0 := Lib.hid hW0
  clear hW2 hW1 hW0 hss hssz hascii z0 z1
  have k0 : W2.cell? ⟨w.heap.size, 0, none⟩ = some (.slice (some ⟨g, 0, none⟩) n n) := by rw [cell_of_row W2 _ 0 _ _ (0, 0) n0]; rfl
  refine (callsIn_wide (n := 9)).1 ?_
  refine callsIn_of_wp_marks Tryz.func156 rfl trivial ?_ rfl
  simp only [Tryz.ntmps156, List.size_toArray, List.length_cons, List.length_nil, Nat.reduceAdd, Nat.reduceSub, Array.replicate_succ, Array.replicate_zero, List.push_toArray, List.append_toArray, List.nil_append, List.cons_append]
  gi_wp2_with (refine ⟨trivial, ?_⟩; gi_at_call 155; rw [← HW0.out, ← HW1.out, ← HW.out]; refine (callsIn_wide.2 (HTL.out W2)).mono ?_; rintro e w1 ⟨rfl, hb1⟩; have k1 : w1.cell? ⟨w.heap.size, 0, none⟩ = some (.slice (some ⟨g, 0, none⟩) n n) := (hb1.cell (by show w.heap.size < W2.heap.size; omega)).trans k0; change Hid (ss = ⟨(Lib.toLowerA s.data.toList).toArray⟩) at HSS; rw [← HSS.out])
  have hz1 := hb1.size
  have F0 : LvC w w1 fn ss 0 [] w1 := ⟨KeptBut.refl _ _, (hb1.block _ (by omega)).trans n1, Marks.nil _ _⟩
  have hm0 := (hb1.block _ (by omega)).trans n0
  have hm2 := (hb1.block _ (by omega)).trans n2
  have hlow1 : Below w.heap.size w w1 := hl2.trans (hb1.mono (by omega))
  clear hb1 n0 n1 n2 hl2 k0 k1 HTL hmk HW HW1 HW0
  refine wpIn_loop (fun a W => ∃ (Ds : List Nat) (k : Nat) (u8 u22 u23 u24 u25 u26 u27 u51 : Value), k ≤ n ∧ a = { tmps := #[.agg #[.slice (some ⟨g, 0, none⟩) n n, .map m1, .map m2, .int .i64 le, .int .i64 ri], .string s, .pointer (some ⟨w.heap.size, 0, none⟩), undef, .slice none 0 0, .pointer (some ⟨w.heap.size + 1 + 1, 0, none⟩), .string ss, undef, u8, undef, undef, undef, .string s, .int .i64 (s.size : Int), .int .i64 ((s.size : Int) + 1), .slice (some ⟨w.heap.size + 1, 0, none⟩) (s.size + 1) (s.size + 1), .string s, .string ss, .pointer (some ⟨w.heap.size, 0, none⟩), .slice (some ⟨g, 0, none⟩) n n, .int .i64 (n : Int), .int .i64 (k : Int), u22, u23, u24, u25, u26, u27, undef, undef, undef, undef, undef, undef, undef, undef, undef, undef, undef, undef, undef, undef, undef, undef, undef, undef, undef, undef, undef, undef, undef, u51, undef], defers := marksOf Ds } ∧ LvC w w1 fn ss k Ds W) (lvMu n) ⟨[], 0, undef, undef, undef, undef, undef, undef, undef, undef, Nat.zero_le _, rfl, F0⟩ ?_
  clear F0
  rintro a W ⟨Ds, k, u8, u22, u23, u24, u25, u26, u27, u51, hk, rfl, hL⟩
  have hzW := hL.kept.size
  by_cases hlt : k < n
  · have hlt' : (k : Int) < (n : Int) := by omega
    have hmu : lvMu n { tmps := #[.agg #[.slice (some ⟨g, 0, none⟩) n n, .map m1, .map m2, .int .i64 le, .int .i64 ri], .string s, .pointer (some ⟨w.heap.size, 0, none⟩), undef, .slice none 0 0, .pointer (some ⟨w.heap.size + 1 + 1, 0, none⟩), .string ss, undef, u8, undef, undef, undef, .string s, .int .i64 (s.size : Int), .int .i64 ((s.size : Int) + 1), .slice (some ⟨w.heap.size + 1, 0, none⟩) (s.size + 1) (s.size + 1), .string s, .string ss, .pointer (some ⟨w.heap.size, 0, none⟩), .slice (some ⟨g, 0, none⟩) n n, .int .i64 (n : Int), .int .i64 (k : Int), u22, u23, u24, u25, u26, u27, undef, undef, undef, undef, undef, undef, undef, undef, undef, undef, undef, undef, undef, undef, undef, undef, undef, undef, undef, undef, undef, undef, undef, u51, undef], defers := marksOf Ds } W = n - k := rfl
    refine wpIn_hide2 (fun Q' HQ0 => ?_)
    have HQ := Lib.hid HQ0
    rw [hmu] at HQ
    clear HQ0 hmu
    have hbW := hlow1.trans (hL.kept.low (by omega) (by omega))
    have hgl := HP.out.lt
    obtain ⟨ps, A, cap, w0, w1', w2, w3, hps, hgA, hIw⟩ := HP.out.pats k hlt
    have p0 := (hbW.cell (show (⟨g, k * 4, none⟩ : Addr).block < w.heap.size from hgl)).trans w0
    have p1 := (hbW.cell (show (⟨g, k * 4 + 1, none⟩ : Addr).block < w.heap.size from hgl)).trans w1'
    have p2 := (hbW.cell (show (⟨g, k * 4 + 2, none⟩ : Addr).block < w.heap.size from hgl)).trans w2
    have p3 := (hbW.cell (show (⟨g, k * 4 + 3, none⟩ : Addr).block < w.heap.size from hgl)).trans w3
    clear w0 w1' w2 w3
    have hpo := HOK.out k hlt
    have hpsz : ps.size = (fn k).ls.length := by rw [← hps]; simp
    have hdl := hpo.len
    have hsh := hpo.short
    have HPO := Lib.hid hpo
    have HIW := Lib.hid hIw
    have HSX := Lib.hid (And.intro hpsz hdl)
    have hpsl : ps.size ≤ 1000 := by omega
    have hdl2 : (fn k).ds.length ≤ 17 := by omega
    clear hpo hIw hpsz hdl hsh hgA
    have HPS := Lib.hid hps
    have HFI := Lib.hid (foundIn_any (pvOf (fn k) ps (some A) cap) ss)
    unfold PV.cells pvOf at HFI
    dsimp only at HFI
    clear hps
    gi_wp2_with (refine ⟨trivial, ?_⟩; gi_at_call 187; refine (callsIn_wide.2 (HFI.out _)).mono ?_; rintro e w' ⟨rfl, rfl⟩)
    obtain ⟨V3, hV3⟩ : ∃ V3, V3 = ((W.alloc (.cells #[.string ps, .slice (some A) (fn k).ds.length cap, .bool (fn k).start, .bool (fn k).stop] 225)).alloc (.cells #[.string ps, .slice (some A) (fn k).ds.length cap, .bool (fn k).start, .bool (fn k).stop] 225)).alloc (.cells #[.string ss] 9) := ⟨_, rfl⟩
    have s3 : V3.heap.size = W.heap.size + 3 := by rw [hV3]; simp
    have k3 : KeptBut (w.heap.size + 1) W V3 := by rw [hV3]; exact (((KeptBut.refl _ _).alloc _).alloc _).alloc _
    have hbl3 : Below W.heap.size W V3 := by rw [hV3]; exact (((Below.refl _ _).alloc (Nat.le_refl _) _).alloc (by simp) _).alloc (by simp; omega) _
    have hbx : V3.heap[W.heap.size]? = some (.cells #[.string ps, .slice (some A) (fn k).ds.length cap, .bool (fn k).start, .bool (fn k).stop] 225 (0, 0)) := by rw [hV3]; exact heap_keep (heap_keep (heap_new W _))
    have hb2 : V3.heap[W.heap.size + 1]? = some (.cells (pvOf (fn k) ps (some A) cap).cells 225 (0, 0)) := by
      have h := heap_keep (o := .cells #[.string ss] 9) (heap_new (W.alloc (.cells #[.string ps, .slice (some A) (fn k).ds.length cap, .bool (fn k).start, .bool (fn k).stop] 225)) (.cells #[.string ps, .slice (some A) (fn k).ds.length cap, .bool (fn k).start, .bool (fn k).stop] 225)); rw [World.size_alloc, ← hV3] at h; exact h
    have hb1 : V3.heap[W.heap.size + 1 + 1]? = some (.cells #[.string ss] 9 (0, 0)) := by
      have h := heap_new ((W.alloc (.cells #[.string ps, .slice (some A) (fn k).ds.length cap, .bool (fn k).start, .bool (fn k).stop] 225)).alloc (.cells #[.string ps, .slice (some A) (fn k).ds.length cap, .bool (fn k).start, .bool (fn k).stop] 225)) (.cells #[.string ss] 9); rw [World.size_alloc, World.size_alloc, ← hV3] at h; exact h
    have hlow : Below w.heap.size w V3 := hlow1.trans ((hL.kept.trans k3).low (by omega) (by omega))
    have hrW := hL.row
    have r3 : RowX V3 (w.heap.size + 1) (lvF (pvOf (fn k) ps (some A) cap) ss (lvTo fn ss k) []) := RowX.below hrW hbl3
    change Code.wpIn _ _ _ _ _ _ (((W.alloc (.cells #[.string ps, .slice (some A) (fn k).ds.length cap, .bool (fn k).start, .bool (fn k).stop] 225)).alloc (.cells #[.string ps, .slice (some A) (fn k).ds.length cap, .bool (fn k).start, .bool (fn k).stop] 225)).alloc (.cells #[.string ss] 9))
    rw [← hV3]
    have hle : w.heap.size ≤ V3.heap.size := by omega
    have hsz2 : ss.size ≤ 1000 := by rw [HSZ.out]; exact hs
    clear hV3 p0 p1 p2 p3
    refine wpIn_rangeFunc_ownG rfl (by omega) (gf := 212) (lb := #[.pointer (some ⟨W.heap.size + 1 + 1, 0, none⟩), .pointer (some ⟨W.heap.size + 1, 0, none⟩)]) rfl trivial (enters_of Tryz.func212 (by kernel_rfl) rfl)
      (foundIn_stops (pvOf (fn k) ps (some A) cap) ss w.heap.size _ _ _ V3 hb1 hb2 hsz2 hpsl) (fun h k => h.trans k)
      (fun W l o o' hl h h1 h2 => ⟨belowK_b hle W l o o' hl h h1 h2, World.putObj_heap_other (fun e => by omega), World.putObj_heap_other (fun e => by omega)⟩)
      (Below.refl _ _) (fun _ => rfl)
      (fun pre V => KeptBut (w.heap.size + 1) V3 V ∧ RowX V (w.heap.size + 1) (lvF (pvOf (fn k) ps (some A) cap) ss (lvTo fn ss k) pre))
      (fun _ _ _ => False)
      (fun s A B row hs hg hr => ⟨hs.1.grown hg (fun r e => (hr r e).1), (hg.block _ hs.2.lt (fun e => by have := (hr _ e.symm).1; omega)).trans hs.2⟩)
      (fun _ _ _ _ _ hs _ _ => hs)
      ⟨KeptBut.refl _ _, r3⟩
      (fun x => { tmps := #[.agg #[.slice (some ⟨g, 0, none⟩) n n, .map m1, .map m2, .int .i64 le, .int .i64 ri], .string s, .pointer (some ⟨w.heap.size, 0, none⟩), undef, .slice none 0 0, .pointer (some ⟨w.heap.size + 1 + 1, 0, none⟩), .string ss, undef, .pointer (some ⟨W.heap.size, 0, none⟩), .int .i64 (x.1 : Int), undef, undef, .string s, .int .i64 (s.size : Int), .int .i64 ((s.size : Int) + 1), .slice (some ⟨w.heap.size + 1, 0, none⟩) (s.size + 1) (s.size + 1), .string s, .string ss, .pointer (some ⟨w.heap.size, 0, none⟩), .slice (some ⟨g, 0, none⟩) n n, .int .i64 (n : Int), .int .i64 (k : Int), .bool true, .pointer (some ⟨g, k * 4, none⟩), .agg #[.string ps, .slice (some A) (fn k).ds.length cap, .bool (fn k).start, .bool (fn k).stop], .agg #[.string ps, .slice (some A) (fn k).ds.length cap, .bool (fn k).start, .bool (fn k).stop], .string ss, .func (.func 212) #[] #[.pointer (some ⟨W.heap.size + 1 + 1, 0, none⟩), .pointer (some ⟨W.heap.size + 1, 0, none⟩)], .int .i64 (x.1 : Int), undef, undef, undef, undef, undef, undef, undef, undef, undef, undef, undef, undef, undef, undef, undef, undef, undef, undef, undef, undef, undef, undef, u51, undef], defers := [] }) ?assign ?body ?done ?stop
    case assign =>
      intro l x V K hK
      gi_wp2
      exact hK
    case body =>
      rintro l pre x V ⟨hkV, hrV⟩ hlt2
      have hzV := hkV.size
      have h8 := hkV.at_ hbx (by omega)
      have c8 : V.cell? ⟨W.heap.size, 1, none⟩ = some (.slice (some A) (fn k).ds.length cap) := by rw [cell_of_row V _ 1 _ _ (0, 0) h8]; rfl
      have hx2 := x.2.1
      change x.1 + ps.size ≤ ss.size at hx2
      have hMok := lvF_ok (p := pvOf (fn k) ps (some A) cap) (s := ss) (fun q => (HPO.out.digs q).2) pre (hlv.out k hk)
      have hsn := Lib.hid (lvF_snoc (pvOf (fn k) ps (some A) cap) ss (lvTo fn ss k) pre x)
      obtain ⟨M, hM⟩ : ∃ M, M = lvF (pvOf (fn k) ps (some A) cap) ss (lvTo fn ss k) pre := ⟨_, rfl⟩
      rw [← hM] at hMok hrV hsn
      have HM := Lib.hid hM
      have HX2 := Lib.hid hx2
      clear hM h8
      refine wpIn_block ?_
      refine wpIn_seq ?_
      refine wpIn_round_plain (by rfl) (fun ⟨_, _, h⟩ => h) ?_
      go_wp2
      refine wpIn_block ?_
      refine wpIn_loop (fun a V' => ∃ (i : Nat) (v10 v11 v33 v34 v35 v36 v37 v38 v39 v40 v41 v42 v43 v44 v45 v46 v47 v48 v49 v50 : Value), i ≤ (fn k).ds.length ∧ a = { tmps := #[.agg #[.slice (some ⟨g, 0, none⟩) n n, .map m1, .map m2, .int .i64 le, .int .i64 ri], .string s, .pointer (some ⟨w.heap.size, 0, none⟩), undef, .slice none 0 0, .pointer (some ⟨w.heap.size + 1 + 1, 0, none⟩), .string ss, undef, .pointer (some ⟨W.heap.size, 0, none⟩), .int .i64 (x.1 : Int), v10, v11, .string s, .int .i64 (s.size : Int), .int .i64 ((s.size : Int) + 1), .slice (some ⟨w.heap.size + 1, 0, none⟩) (s.size + 1) (s.size + 1), .string s, .string ss, .pointer (some ⟨w.heap.size, 0, none⟩), .slice (some ⟨g, 0, none⟩) n n, .int .i64 (n : Int), .int .i64 (k : Int), .bool true, .pointer (some ⟨g, k * 4, none⟩), .agg #[.string ps, .slice (some A) (fn k).ds.length cap, .bool (fn k).start, .bool (fn k).stop], .agg #[.string ps, .slice (some A) (fn k).ds.length cap, .bool (fn k).start, .bool (fn k).stop], .string ss, .func (.func 212) #[] #[.pointer (some ⟨W.heap.size + 1 + 1, 0, none⟩), .pointer (some ⟨W.heap.size + 1, 0, none⟩)], .int .i64 (x.1 : Int), .pointer (some ⟨W.heap.size, 1, none⟩), .slice (some A) (fn k).ds.length cap, .int .i64 ((fn k).ds.length : Int), .int .i64 (i : Int), v33, v34, v35, v36, v37, v38, v39, v40, v41, v42, v43, v44, v45, v46, v47, v48, v49, v50, u51, undef], defers := [] } ∧ KeptBut (w.heap.size + 1) V V' ∧ KeepsOthers V V' ∧ RowX V' (w.heap.size + 1) (lvD x.1 (fn k).ds i M)) (fun a _ => (fn k).ds.length - (intOf (a.tmps.getD 32 undef)).toNat) ⟨0, undef, undef, undef, undef, undef, undef, undef, undef, undef, undef, undef, undef, undef, undef, undef, undef, undef, undef, undef, undef, Nat.zero_le _, rfl, KeptBut.refl _ _, KeepsOthers.refl _, hrV⟩ ?_
      rintro a V' ⟨i, v10, v11, v33, v34, v35, v36, v37, v38, v39, v40, v41, v42, v43, v44, v45, v46, v47, v48, v49, v50, hi, rfl, hkI, hoI, hrI⟩
      by_cases hil : i < (fn k).ds.length
      · have hil' : (i : Int) < ((fn k).ds.length : Int) := by omega
        refine wpIn_seq ?_
        refine wpIn_round_plain (by rfl) (fun ⟨_, _, h⟩ => h) ?_
        go_wp2
        refine wpIn_seq ?_
        refine wpIn_cond_true rfl ?_
        refine wpIn_skip ?_
        change Code.wpIn _ _ _ (Code.seq _ _) _ _ _
        refine wpIn_seq ?_
        refine wpIn_block ?_
        refine wpIn_seq ?_
        have hbV' := hlow.trans ((hkV.trans hkI).low (by omega) (by omega))
        obtain ⟨ad, hae, hal, hay⟩ := (HIW.out.below hbV').at_ hil
        cases hae
        obtain ⟨d, hde⟩ : ∃ d, d = (fn k).ds.getD i 0 := ⟨_, rfl⟩
        have hd := HPO.out.digs i
        rw [← hde] at hay hd
        have HDE := Lib.hid hde
        have i0 : (0 : Int) ≤ (i : Int) := by omega
        clear hde
        refine wpIn_round_plain (by rfl) (fun ⟨_, _, h⟩ => h) ?_
        go_wp2
        have h2 := (hL.kept.trans (k3.trans (hkV.trans hkI))).at_ hm2 (by omega)
        have c5 : V'.cell? ⟨w.heap.size + 1 + 1, 0, none⟩ = some (.slice (some ⟨w.heap.size + 1, 0, none⟩) (s.size + 1) (s.size + 1)) := by rw [cell_of_row V' _ 0 _ _ (0, 0) h2]; rfl
        have hMi := lvD_ok hMok x.1 (fun q => (HPO.out.digs q).2) i
        have hxi : x.1 + i < s.size + 1 := by have := HSX.out; have := HSZ.out; have := HX2.out; omega
        obtain ⟨N, hN⟩ : ∃ N, N = lvD x.1 (fn k).ds i M := ⟨_, rfl⟩
        rw [← hN] at hMi hrI
        have hNl : N.length = s.size + 1 := by rw [hMi.1, HSZ.out]
        have ca := hrI.cell (j := x.1 + i) (by omega)
        have fa := hrI.frozen (x.1 + i)
        obtain ⟨c, hce⟩ : ∃ c, c = N.getD (x.1 + i) 0 := ⟨_, rfl⟩
        have hc := hMi.2 (x.1 + i)
        rw [← hce] at ca hc
        have HNC := Lib.hid (And.intro hN hce)
        have j0 : (0 : Int) ≤ (x.1 : Int) + (i : Int) := by omega
        have j1 : (x.1 : Int) + (i : Int) < ((s.size + 1 : Nat) : Int) := by omega
        have j2 : (x.1 : Int) + (i : Int) < (s.size : Int) + 1 := by omega
        have j3 : IntKind.i64.wrap ((x.1 : Int) + (i : Int)) = (x.1 : Int) + (i : Int) := by rw [IntKind.wrap_i64]; omega
        have j5 : ((x.1 : Int) + (i : Int)).toNat = x.1 + i := by omega
        clear hN hce h2 hNl
        refine wpIn_round_held (S := fun Z => Z.cell? ⟨w.heap.size + 1 + 1, 0, none⟩ = some (.slice (some ⟨w.heap.size + 1, 0, none⟩) (s.size + 1) (s.size + 1))) (by kernel_rfl) (by rfl) (fun ⟨_, _, h⟩ => h) c5 (fun hS => ?_)
        refine takeL (i := 0) (v := .slice (some ⟨w.heap.size + 1, 0, none⟩) (s.size + 1) (s.size + 1)) rfl (by kernel_rfl) (by kernel_rfl) (by kernel_rfl) (fun _ _ _ h => h) (Or.inl ⟨by rfl, fun V9 h9 => by dsimp only at h9; go_simp⟩) (by assumption) ?_
        try simp only [Act.put, List.setIfInBounds_toArray, List.set_cons_zero, List.set_cons_succ]
        refine takeL (i := 1) (v := .int .i64 (x.1 : Int)) rfl (by kernel_rfl) (by kernel_rfl) (by kernel_rfl) (fun _ _ _ h => h) (Or.inl ⟨by rfl, fun V9 h9 => by dsimp only at h9; go_simp⟩) (by assumption) ?_
        try simp only [Act.put, List.setIfInBounds_toArray, List.set_cons_zero, List.set_cons_succ]
        refine takeL (i := 2) (v := .int .i64 (i : Int)) rfl (by kernel_rfl) (by kernel_rfl) (by kernel_rfl) (fun _ _ _ h => h) (Or.inl ⟨by rfl, fun V9 h9 => by dsimp only at h9; go_simp⟩) (by assumption) ?_
        try simp only [Act.put, List.setIfInBounds_toArray, List.set_cons_zero, List.set_cons_succ]
        refine takeL (i := 3) (v := .int .i64 ((x.1 : Int) + (i : Int))) rfl (by kernel_rfl) (by kernel_rfl) (by kernel_rfl) (fun _ _ _ h => h) (Or.inl ⟨by rfl, fun V9 h9 => by dsimp only at h9; go_simp⟩) (by assumption) ?_
        try simp only [Act.put, List.setIfInBounds_toArray, List.set_cons_zero, List.set_cons_succ]
        refine takeL (i := 4) (v := .slice (some ⟨w.heap.size + 1, 0, none⟩) (s.size + 1) (s.size + 1)) rfl (by kernel_rfl) (by kernel_rfl) (by kernel_rfl) (fun _ _ _ h => h) (Or.inl ⟨by rfl, fun V9 h9 => by dsimp only at h9; go_simp⟩) (by assumption) ?_
        try simp only [Act.put, List.setIfInBounds_toArray, List.set_cons_zero, List.set_cons_succ]
        refine takeL (i := 5) (v := .int .i64 (x.1 : Int)) rfl (by kernel_rfl) (by kernel_rfl) (by kernel_rfl) (fun _ _ _ h => h) (Or.inl ⟨by rfl, fun V9 h9 => by dsimp only at h9; go_simp⟩) (by assumption) ?_
        try simp only [Act.put, List.setIfInBounds_toArray, List.set_cons_zero, List.set_cons_succ]
        refine takeL (i := 6) (v := .int .i64 (i : Int)) rfl (by kernel_rfl) (by kernel_rfl) (by kernel_rfl) (fun _ _ _ h => h) (Or.inl ⟨by rfl, fun V9 h9 => by dsimp only at h9; go_simp⟩) (by assumption) ?_
        try simp only [Act.put, List.setIfInBounds_toArray, List.set_cons_zero, List.set_cons_succ]
        refine takeL (i := 7) (v := .int .i64 ((x.1 : Int) + (i : Int))) rfl (by kernel_rfl) (by kernel_rfl) (by kernel_rfl) (fun _ _ _ h => h) (Or.inl ⟨by rfl, fun V9 h9 => by dsimp only at h9; go_simp⟩) (by assumption) ?_
        try simp only [Act.put, List.setIfInBounds_toArray, List.set_cons_zero, List.set_cons_succ]
        refine takeL (i := 8) (v := .pointer (some ⟨w.heap.size + 1, x.1 + i, none⟩)) rfl (by kernel_rfl) (by kernel_rfl) (by kernel_rfl) (fun _ _ _ h => h) (Or.inl ⟨by rfl, fun V9 h9 => by dsimp only at h9; go_simp⟩) (by assumption) ?_
        try simp only [Act.put, List.setIfInBounds_toArray, List.set_cons_zero, List.set_cons_succ]
        refine takeL (i := 10) (v := .int .i64 d) rfl (by kernel_rfl) (by kernel_rfl) (by kernel_rfl) (fun _ _ _ h => h) (Or.inl ⟨by rfl, fun V9 h9 => by dsimp only at h9; go_simp⟩) (by assumption) ?_
        try simp only [Act.put, List.setIfInBounds_toArray, List.set_cons_zero, List.set_cons_succ]
        refine wpAnyH_ready (rs := [9]) (by kernel_rfl) (by simp) (consL rfl (fun K hK => ?_) AllReadyH.nil)
        go_simp
        refine hK.out _ _ hS (fun _ => ?_)
        clear hK K
        try simp only [Act.put, List.setIfInBounds_toArray, List.set_cons_zero, List.set_cons_succ]
        refine takeL (i := 11) (v := .int .i64 (max c d)) rfl (by kernel_rfl) (by kernel_rfl) (by kernel_rfl) (fun _ _ _ h => h) (Or.inl ⟨by rfl, fun V9 h9 => by dsimp only at h9; go_simp⟩) (by assumption) ?_
        try simp only [Act.put, List.setIfInBounds_toArray, List.set_cons_zero, List.set_cons_succ]
        refine takeL (i := 12) (v := .pointer (some ⟨w.heap.size + 1, x.1 + i, none⟩)) rfl (by kernel_rfl) (by kernel_rfl) (by kernel_rfl) (fun _ _ _ h => h) (Or.inl ⟨by rfl, fun V9 h9 => by dsimp only at h9; go_simp⟩) (by assumption) ?_
        try simp only [Act.put, List.setIfInBounds_toArray, List.set_cons_zero, List.set_cons_succ]
        refine wpAnyH_ready (rs := [13]) (by kernel_rfl) (by simp) (consL rfl (fun K hK => ?_) AllReadyH.nil)
        go_simp
        refine hK.out _ _ ?_ (fun _ => wpAnyH_done (by kernel_rfl) ?_ _)
        · show (World.setCell V' ⟨w.heap.size + 1, x.1 + i, none⟩ (.int .i64 (max c d))).cell? ⟨w.heap.size + 1 + 1, 0, none⟩ = _
          rw [World.cell?_setCell_far _ _ _ _ (by show w.heap.size + 1 ≠ w.heap.size + 1 + 1; omega)]; exact hS
        · change Code.wpIn _ _ _ (Code.region _ _ _) _ _ _
          clear hK K hS
          refine wpIn_round_plain (by rfl) (fun ⟨_, _, h⟩ => h) ?_
          go_wp2
          refine ⟨⟨i + 1, _, _, _, _, _, _, _, _, _, _, _, _, _, _, _, _, _, _, _, _, by omega, rfl, (hkI.set_ ⟨w.heap.size + 1, x.1 + i, none⟩ rfl _).drew, (hoI.trans (KeepsOthers.setCell _ _ _)).trans (KeepsOthers.drew _), ?_⟩, ?_⟩
          · show RowX _ _ ((lvD x.1 (fn k).ds i M).set (x.1 + i) (max ((lvD x.1 (fn k).ds i M).getD (x.1 + i) 0) ((fn k).ds.getD i 0)))
            rw [← HNC.out.1, ← HNC.out.2, ← HDE.out]
            exact (hrI.set_ _ _).drew
          · simp [intOf]; omega
      · have hil' : ¬ (i : Int) < ((fn k).ds.length : Int) := by omega
        refine wpIn_seq ?_
        refine wpIn_round_plain (by rfl) (fun ⟨_, _, h⟩ => h) ?_
        go_wp2
        refine wpIn_seq ?_
        refine wpIn_cond_false rfl ?_
        refine wpIn_exit ?_
        obtain rfl : i = (fn k).ds.length := by omega
        refine ⟨hoI.from _, ⟨hkI.low (by omega) (by omega), hkI.block _ (by omega) (by omega), hkI.block _ (by omega) (by omega)⟩, hkV.trans hkI, ?_⟩
        rw [hsn.out]
        exact hrI
    case done =>
      rintro D ys V hD rfl ⟨hkV, hrV⟩ hKD
      have hzV := hkV.size
      have hkW := k3.trans hkV
      gi_wp2
      refine HQ.out _ _ _ ⟨⟨D :: Ds, k + 1, _, _, _, _, _, _, _, _, by omega, rfl, ⟨hL.kept.trans hkW, ?_, ?_⟩⟩, ?_⟩
      · show RowX _ _ (lvP (patP (fn k)) ss (lvTo fn ss k))
        rw [← lvP_pat (fn k) ps (some A) cap HPS.out, ← lvF_all]
        exact hrV
      · refine (hL.mks.kept (fun E hE => ?_)).cons (by omega) hKD (fun hm => by have := hL.mks.lt hm; omega)
        have hlt := hL.mks.lt hE
        exact hkW.block E hlt (fun e => by have := (hL.mks.at_ E hE).1; omega)
      · simp [lvMu, intOf]; omega
    case stop =>
      rintro D c pre V _ _ h _
      exact h.elim
  · obtain rfl : k = n := by omega
    have hlt' : ¬ (k : Int) < (k : Int) := by omega
    have h2 := hL.kept.at_ hm2 (by omega)
    have c5 : W.cell? ⟨w.heap.size + 1 + 1, 0, none⟩ = some (.slice (some ⟨w.heap.size + 1, 0, none⟩) (s.size + 1) (s.size + 1)) := by rw [cell_of_row W _ 0 _ _ (0, 0) h2]; rfl
    clear h2
    gi_wp2
    refine leaves_marks (B := w.heap.size + 3) (v := .slice (some ⟨w.heap.size + 1, 0, none⟩) (s.size + 1) (s.size + 1)) Ds W hL.mks (fun w' hs' hk' hb => ⟨by simp [results, Tryz.results156, go_sem], _, rfl, ?_, by omega, ?_⟩)
    · show RowX w' (w.heap.size + 1) (lvTo fn (lowS s) k)
      rw [show lowS s = ss from HSS.out.symm]
      exact (hk' _ hL.row.lt (fun hm => by have := (hL.mks.at_ _ hm).1; omega)).trans hL.row
    · exact (hlow1.trans (hL.kept.low (by omega) (by omega))).trans (hb.mono (by omega))
end Go.Proofs.YtomblajlpanmjaaGreatDoor
