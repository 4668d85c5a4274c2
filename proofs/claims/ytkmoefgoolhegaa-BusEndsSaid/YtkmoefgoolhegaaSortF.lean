/- Breaking patterns, at rows of numbers of 32 bits: some of them change places. -/
import Derived.Test.YtkmoefgoolhegaaSortE
namespace Go.Proofs.Ytkmoefgoolhegaa
open Go.ChangeShapes Go.WideShapes Go.ChangeAt Go.RowKit Go.Maps Go.Deep Go.Sort

theorem Row.other {W w w' : World} {b S : Nat} {d : Array Int} (h : Row W w b d) (hb : But (· = S) w w') (hn : b ≠ S) (hS : W.heap.size ≤ S) (h0 : 0 < d.size) : Row W w' b d :=
  ⟨fun t ht => hb.cell (h.cell t ht) hn, fun t => by rw [hb.frozen (p := ⟨b, t, none⟩) (show b < _ from cell_lt (h.cell 0 h0)) hn]; exact h.fro t, h.but.trans hb (fun i hi e => by omega)⟩
theorem drew_cell (w : World) (p : Addr) : w.drew.cell? p = w.cell? p := rfl
theorem drew_fro (w : World) (p : Addr) : w.drew.frozen? p = w.frozen? p := rfl
end Go.Proofs.Ytkmoefgoolhegaa
