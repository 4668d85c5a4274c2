/- Parting a row by a pivot. -/
import Derived.Test.YtkmoefgoolhegaaSortG
namespace Go.Proofs.Ytkmoefgoolhegaa
open Go.ChangeShapes Go.WideShapes Go.ChangeAt Go.RowKit Go.Maps Go.Deep Go.Sort

/-- the pivot comes to its place -/
theorem part_end (lo hi j : Nat) (d : Array Int) (P : Int) (h0 : lo ≤ j) (h1 : j < hi) (h2 : hi ≤ d.size) (hlo : gt d lo = P) (hup : ∀ t, lo + 1 ≤ t → t < j + 1 → gt d t < P) (hdn : ∀ t, j < t → t < hi → P ≤ gt d t) :
    (∀ t, lo ≤ t → t < j → gt (swp d j lo) t < gt (swp d j lo) j) ∧ (∀ t, j < t → t < hi → gt (swp d j lo) j ≤ gt (swp d j lo) t) := by
  have hj : gt (swp d j lo) j = P := by
    rw [gt_swp _ _ _ _ (by omega) (by omega)]
    by_cases e : j = lo
    · rw [if_pos e, e]; exact hlo
    · rw [if_neg e, if_pos rfl]; exact hlo
  refine ⟨fun t t0 t1 => ?_, fun t t0 t1 => ?_⟩
  · rw [hj, gt_swp _ _ _ _ (by omega) (by omega)]
    by_cases e : t = lo
    · rw [if_pos e]; exact hup j (by omega) (by omega)
    · rw [if_neg e, if_neg (by omega)]; exact hup t (by omega) (by omega)
  · rw [hj, gt_swp _ _ _ _ (by omega) (by omega), if_neg (by omega), if_neg (by omega)]
    exact hdn t t0 t1
end Go.Proofs.Ytkmoefgoolhegaa
