/-
  The reference's check of rules.
-/
import Derived.Test.YtomblajlpanmjaaGreatDoorZ4
import Derived.Test.YtomblajlpanmjaaGreatDoorV7
namespace Go.Proofs.YtomblajlpanmjaaGreatDoor
open Go.RowKit Go.Maps

structure RKnow (w : World) (r : RU) (wr : World) : Prop where
  box : wr.heap[w.heap.size]? = some (.cells #[.slice r.ps.a r.ps.l.length r.ps.c, .slice r.es.a r.es.l.length r.es.c, .slice r.bs.a r.bs.l.length r.bs.c, .int .i64 r.left, .int .i64 r.right] 24 (0, 0))
  low : Below w.heap.size w wr
theorem RKnow.below {w : World} {r : RU} {wr wr' : World} (h : RKnow w r wr) (hb : Below wr.heap.size wr wr') : RKnow w r wr' := ⟨(hb.block _ (heap_lt h.box)).trans h.box, h.low.trans (hb.mono h.low.size)⟩
end Go.Proofs.YtomblajlpanmjaaGreatDoor
