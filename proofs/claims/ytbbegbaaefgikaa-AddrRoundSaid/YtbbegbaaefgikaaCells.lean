/- What lies in memory, through stores and calls. -/
import Derived.Test.YtbbegbaaefgikaaPure1
namespace Go.Proofs.Ytbbegbaaefgikaa
set_option maxRecDepth 100000
open Go.RowKit

theorem set_same {w : World} {a : Addr} {u : Value} (v : Value) (h : w.cell? a = some u) : (w.setCell a v).cell? a = some v := World.cell?_setCell_same w a v h
theorem set_other {w : World} {a b : Addr} {x : Value} (v : Value) (hn : a ≠ b) (h : w.cell? b = some x) : (w.setCell a v).cell? b = some x := by
  rw [World.cell?_setCell_other w a b v hn, h]
/-- Behind a block that was made, and whatever was made behind it, all that lay there reads as it did. -/
theorem cell_under {a W : World} {o : Obj} {p : Addr} {x : Value} (h : a.cell? p = some x) (hb : Below (a.heap.size + 1) (a.alloc o) W) : W.cell? p = some x := by
  have hl := cell_lt h
  rw [hb.cell (by omega), World.cell?_alloc_lt _ _ _ hl, h]
/-- likewise, of what lay below -/
theorem below_under {w a W : World} {o : Obj} (h : Below w.heap.size w a) (hb : Below (a.heap.size + 1) (a.alloc o) W) : Below w.heap.size w W :=
  (h.alloc h.size _).trans (hb.mono (by have := h.size; omega))
end Go.Proofs.Ytbbegbaaefgikaa
