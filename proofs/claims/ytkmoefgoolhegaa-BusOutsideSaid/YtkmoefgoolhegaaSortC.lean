/- Heap sort, turning round, at rows of numbers of 32 bits. -/
import Derived.Test.YtkmoefgoolhegaaSortB
namespace Go.Proofs.Ytkmoefgoolhegaa
open Go.ChangeShapes Go.WideShapes Go.ChangeAt Go.RowKit Go.Maps Go.Deep Go.Sort

theorem sift_size (hi first : Nat) : ∀ (r : Nat) (d : Array Int), first + hi ≤ d.size → (siftDown ltInt hi first r d).size = d.size := by
  intro r d h
  fun_induction siftDown ltInt hi first r d <;> simp_all [size_swp]
end Go.Proofs.Ytkmoefgoolhegaa
