import Derived.Test.YtgihiddiceinhaaDoorKND
namespace Go.Proofs.YtgihiddiceinhaaDoor
open Go.ChangeShapes Go.WideShapes Go.ChangeAt Go.RowKit
theorem setL_ins12 (I : Ins) : setL zeroA 0 (insL I) = insC I := by kernel_rfl
theorem stored12 {w Y : World} {I : Ins} {T : TypeId} (hY : Y = (w.alloc (.cells zeroA T)).setCells w.heap.size 0 (insL I)) : Y.rangeAt w.heap.size 0 (insL I) ∧ Below w.heap.size w Y ∧ w.heap.size < Y.heap.size := by
  have hb : Y.heap[w.heap.size]? = some (.cells (insC I) T (0, 0)) := by
    have := block_setCells (T := T) (insL I) 0 (w.alloc (.cells zeroA T)) zeroA (by show (w.heap.push _)[w.heap.size]? = _; simp)
    rw [setL_ins12] at this
    rw [hY]
    exact this
  refine ⟨fun j v hj => ?_, ?_, (Array.getElem?_eq_some_iff.1 hb).1⟩
  · rw [Nat.zero_add, (cell_block hb j).1]
    show (insL I).toArray[j]? = _
    simpa using hj
  · rw [hY]
    exact below_setCells (Nat.le_refl _) _ _ _ (below_last (Below.refl _ _) _)
end Go.Proofs.YtgihiddiceinhaaDoor
