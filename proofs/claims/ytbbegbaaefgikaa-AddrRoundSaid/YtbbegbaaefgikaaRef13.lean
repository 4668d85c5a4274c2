/- The document's registers (package salternref13): Get. -/
import Derived.Test.YtbbegbaaefgikaaSta13
import Derived.Deep.QuietTactic
import Derived.BigQuiet
import Derived.Deep.DeepCutAuto
namespace Go.Proofs.Ytbbegbaaefgikaa
set_option maxRecDepth 100000
open Go.ChangeShapes Go.WideShapes Go.ChangeAt Go.RowKit

theorem heap_two {w W : World} {o p : Obj} (h : W = (w.alloc o).alloc p) : W.heap[w.heap.size]? = some o ∧ W.heap[w.heap.size + 1]? = some p ∧ Below w.heap.size w W := by
  subst h
  refine ⟨?_, ?_, below_last (below_last (Below.refl _ _) _) _⟩
  · show ((w.heap.push _).push _)[w.heap.size]? = _
    simp [Array.getElem?_push]
  · show ((w.heap.push o).push p)[w.heap.size + 1]? = _
    rw [show w.heap.size + 1 = (w.heap.push o).size by simp]
    exact Array.getElem?_push_size
theorem below_dr {B : Nat} {w W : World} (h : Below B w W) : ∀ n, Below B w (W.drewN n) := fun _ => ⟨h.os, h.tape, h.output, h.size, h.block⟩
theorem and255 (a : Int) (h0 : 0 ≤ a) (h1 : a < 4294967296) : bits .and .u32 a 255 = a % 256 := by
  rw [u32_and a 255 h0 h1 (by decide) (by decide)]
  have h : a.toNat &&& (255 : Int).toNat = a.toNat % 256 := Nat.and_two_pow_sub_one_eq_mod a.toNat 8
  rw [h]
  omega
end Go.Proofs.Ytbbegbaaefgikaa
