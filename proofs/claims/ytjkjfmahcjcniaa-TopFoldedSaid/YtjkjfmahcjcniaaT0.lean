/-
  Calls of a law told by names (the short theorems of SG and RK, without their walks).
-/
import Derived.Test.YtjkjfmahcjcniaaSF
import Derived.Test.YtjkjfmahcjcniaaY4
import Derived.Test.YtjkjfmahcjcniaaRI
import Derived.Test.YtjkjfmahcjcniaaRM
namespace Go.Proofs.Ytjkjfmahcjcniaa
open Go.RowKit

theorem refCheckFo_n (C R : Int) (a : Option Addr) (n : Nat) (L : List Fold) (c : Nat) (w : World) (hn : n = L.length) (hL : RowsAt 2 Fold.l w a L) (hl : L.length ≤ maxLen) {p q : Int} (h1 : (checkFo C R L).1 = p) (h2 : (checkFo C R L).2 = q) :
    Calls Try.prog 20 #[.agg #[.int .i64 C, .int .i64 R], .slice a n c] w fun e w' => e = .returned (.tuple #[.int .i64 p, .int .i64 q]) ∧ Below w.heap.size w w' := by
  subst hn; rw [← h1, ← h2]; exact refCheckFolds_any C R a L c w hL hl
theorem rows_box {v : World} {a : Option Addr} {M : List Cell} {b : Nat} {x0 x1 x2 u0 u1 u2 : Value} {T : TypeId} (h : RowsAt 4 Cell.l v a M) (hb : BoxAt v b #[x0, x1, x2] T) : RowsAt 4 Cell.l (((v.setCell ⟨b, 0, none⟩ u0).setCell ⟨b, 1, none⟩ u1).setCell ⟨b, 2, none⟩ u2) a M := by
  intro k hk
  obtain ⟨ad, e, hlt, hs⟩ := h k hk
  have hne : ad.block ≠ b := fun e2 => by
    have h3 := hs 3 (by decide)
    have e4 : fld (ad.add (k * 4)) 3 = ⟨b, (ad.add (k * 4)).off + 3, none⟩ := by
      show (⟨(ad.add (k * 4)).block, (ad.add (k * 4)).off + 3, none⟩ : Addr) = _
      rw [add_block, e2]
    rw [e4, hb.cell] at h3
    simp at h3
  have hq : (((v.setCell ⟨b, 0, none⟩ u0).setCell ⟨b, 1, none⟩ u1).setCell ⟨b, 2, none⟩ u2).heap[ad.block]? = v.heap[ad.block]? :=
    (Below.heap_setCell _ _ _ _ hne).trans ((Below.heap_setCell _ _ _ _ hne).trans (Below.heap_setCell _ _ _ _ hne))
  exact ⟨ad, e, by simpa using hlt, fun j hj => (cell_block (by rw [fld_block, add_block]; exact hq)).trans (hs j hj)⟩
theorem copySc_n (C R : Int) (a : Option Addr) (n : Nat) (L : List Cell) (c : Nat) (w : World) (hn : n = L.length) (hL : RowsAt 4 Cell.l w a L) (hl : L.length ≤ 1000000) (hc : a = none → c = 0) :
    Calls Try.prog 29 #[.agg #[.int .i64 C, .int .i64 R, .slice a n c]] w (CopySchemePost C R L w) := by
  subst hn; exact copyScheme_any C R a L c w hL hl hc
theorem sc_fin1 {w1 v : World} {sa : Option Addr} {M : List Cell} {D1 D2 : Int} {sn sc : Nat} (hq : Below w1.heap.size w1 v) (h : RowsAt 4 Cell.l v sa M) (q : Int) :
    Value.int .i64 q = Value.int .i64 q ∧ ∃ b5, Value.pointer (some ⟨v.heap.size, 0, none⟩) = .pointer (some ⟨b5, 0, none⟩) ∧ BoxAt (v.alloc (.cells #[.int .i64 D1, .int .i64 D2, .slice sa sn sc] 43)) b5 #[.int .i64 D1, .int .i64 D2, .slice sa sn sc] 43 ∧ RowsAt 4 Cell.l (v.alloc (.cells #[.int .i64 D1, .int .i64 D2, .slice sa sn sc] 43)) sa M ∧ Below w1.heap.size w1 (v.alloc (.cells #[.int .i64 D1, .int .i64 D2, .slice sa sn sc] 43)) :=
  ⟨rfl, _, rfl, BoxAt.new _ _ _, h.alloc _, hq.alloc hq.size _⟩
theorem sc_fin2 {w1 v : World} {b : Nat} {x0 x1 x2 : Value} {sa : Option Addr} {M : List Cell} {D1 D2 : Int} {sn sc : Nat} (hb : BoxAt v b #[x0, x1, x2] 43) (hle : w1.heap.size ≤ b) (hq : Below w1.heap.size w1 v) (h : RowsAt 4 Cell.l v sa M) (q : Int) :
    Value.int .i64 q = Value.int .i64 q ∧ ∃ b5, Value.pointer (some ⟨b, 0, none⟩) = .pointer (some ⟨b5, 0, none⟩) ∧ BoxAt (((v.setCell ⟨b, 0, none⟩ (.int .i64 D1)).setCell ⟨b, 1, none⟩ (.int .i64 D2)).setCell ⟨b, 2, none⟩ (.slice sa sn sc)) b5 #[.int .i64 D1, .int .i64 D2, .slice sa sn sc] 43 ∧
      RowsAt 4 Cell.l (((v.setCell ⟨b, 0, none⟩ (.int .i64 D1)).setCell ⟨b, 1, none⟩ (.int .i64 D2)).setCell ⟨b, 2, none⟩ (.slice sa sn sc)) sa M ∧ Below w1.heap.size w1 (((v.setCell ⟨b, 0, none⟩ (.int .i64 D1)).setCell ⟨b, 1, none⟩ (.int .i64 D2)).setCell ⟨b, 2, none⟩ (.slice sa sn sc)) :=
  ⟨rfl, _, rfl, ((hb.set 0 _).set 1 _).set 2 _, rows_box h hb, ((hq.setCell (p := ⟨b, 0, none⟩) hle _).setCell (p := ⟨b, 1, none⟩) hle _).setCell (p := ⟨b, 2, none⟩) hle _⟩
theorem schemeOf_n (C R : Int) (a : Option Addr) (n : Nat) (L : List Fold) (c : Nat) (w : World) (hn : n = L.length) (hL : RowsAt 2 Fold.l w a L) (hl : L.length ≤ maxLen) (hI : ∀ x ∈ L, OkI x.c) {q : Int} {D : Int × Int} {M : List Cell} (h1 : (checkFo C R L).2 = q) (h2 : schemeD C R L = D) (h3 : schemeC C R L = M) :
    Calls Try.prog 24 #[.agg #[.int .i64 C, .int .i64 R], .slice a n c] w fun e w' => ∃ (a : Option Addr) (n c : Nat), e = .returned (.tuple #[.agg #[.int .i64 D.1, .int .i64 D.2, .slice a n c], .int .i64 q]) ∧ n = M.length ∧ RowsAt 4 Cell.l w' a M ∧ (a = none → c = 0) ∧ Below w.heap.size w w' := by
  subst hn; rw [← h1, ← h2, ← h3]; exact schemeOf_any C R a L c w hL hl hI
end Go.Proofs.Ytjkjfmahcjcniaa
