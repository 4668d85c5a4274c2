/- Where an operand is, as a number (layer 14). -/
import Derived.Test.YtbbegbaaefgikaaRegC
namespace Go.Proofs.Ytbbegbaaefgikaa
set_option maxRecDepth 100000
open Go.ChangeShapes Go.WideShapes Go.ChangeAt Go.RowKit

def regN (s : Sta) (i : Int) : Int := if 0 ≤ i ∧ i ≤ 7 then s.r i.toNat else 0
/-- where an operand is -/
def ofF (s : Sta) (o : Opd) : Int := (o.disp + regN s o.base + regN s o.index * o.scale) % 4294967296
theorem ofF_lo (s : Sta) (o : Opd) : 0 ≤ ofF s o := by unfold ofF; omega
theorem ofF_hi (s : Sta) (o : Opd) : ofF s o < 4294967296 := by unfold ofF; omega
theorem mul_wrap (a b : Int) : a * (b % 4294967296) % 4294967296 = a * b % 4294967296 := by
  rw [Int.mul_emod, Int.emod_emod, ← Int.mul_emod]
theorem add_wrap (a b : Int) : (a + b % 4294967296) % 4294967296 = (a + b) % 4294967296 := by omega
theorem wrap_add (a b : Int) : (a % 4294967296 + b) % 4294967296 = (a + b) % 4294967296 := by omega
theorem of_walk (d x c : Int) : (d + x * (c % 4294967296) % 4294967296) % 4294967296 = (d + x * c) % 4294967296 := by
  rw [mul_wrap, add_wrap]
theorem of_walk2 (d y x c : Int) : ((d + y) % 4294967296 + x * (c % 4294967296) % 4294967296) % 4294967296 = (d + y + x * c) % 4294967296 := by
  rw [of_walk, wrap_add]
theorem regN_lo {s : Sta} (hs : StaOk s) (i : Int) : 0 ≤ regN s i ∧ regN s i < 4294967296 := by
  unfold regN
  split
  · exact hs.r _ (by omega)
  · omega
/-- what lies there while an operand is read -/
theorem rng_two {w u : World} {s : Sta} {o : Opd} {W : World} (hW : W = (w.alloc (.cells (staL s).toArray 29)).alloc (.cells (opL' o).toArray 32)) (hu : Below W.heap.size W u) : u.rangeAt w.heap.size 0 (staL s) ∧ u.rangeAt (w.heap.size + 1) 0 (opL' o) := by
  obtain ⟨h1, h2, _⟩ := heap_two hW
  exact ⟨range_in13 ((hu.block _ (Array.getElem?_eq_some_iff.1 h1).1).trans h1) 0 _ rfl, range_in13 ((hu.block _ (Array.getElem?_eq_some_iff.1 h2).1).trans h2) 0 _ rfl⟩
end Go.Proofs.Ytbbegbaaefgikaa
