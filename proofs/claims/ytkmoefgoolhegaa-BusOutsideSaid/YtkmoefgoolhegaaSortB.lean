/- Heap sort and turning round, at rows of numbers of 32 bits. -/
import Derived.Test.YtkmoefgoolhegaaSortA
namespace Go.Proofs.Ytkmoefgoolhegaa
open Go.ChangeShapes Go.WideShapes Go.ChangeAt Go.RowKit Go.Maps Go.Deep Go.Sort

theorem sift_end (hi first r : Nat) (d : Array Int) (h : hi ≤ 2 * r + 1) : siftDown ltInt hi first r d = d := by
  rw [siftDown, dif_pos h]
theorem sift_step (hi first r c : Nat) (d : Array Int) (h : 2 * r + 1 < hi) (hc : (c = 2 * r + 2 ∧ c < hi ∧ ls d (first + (2 * r + 1)) (first + c) = true) ∨ (c = 2 * r + 1 ∧ (2 * r + 2 < hi → ls d (first + c) (first + (2 * r + 2)) = false))) :
    siftDown ltInt hi first r d = if ls d (first + r) (first + c) = true then siftDown ltInt hi first c (swp d (first + r) (first + c)) else d := by
  rw [siftDown, dif_neg (by omega)]
  rcases hc with ⟨rfl, h1, h2⟩ | ⟨rfl, h2⟩
  · have hcn : (decide (2 * r + 1 + 1 < hi) && ltInt d[first + (2 * r + 1)]! d[first + (2 * r + 1) + 1]!) = true := by
      rw [Bool.and_eq_true, decide_eq_true_eq]
      exact ⟨by omega, h2⟩
    rw [if_pos hcn, dif_pos h1]
    cases hx : ltInt d[first + r]! d[first + (2 * r + 2)]!
    · rw [if_pos (by simp), if_neg (by rw [show ls d (first + r) (first + (2 * r + 2)) = false from hx]; simp)]
    · rw [if_neg (by simp), if_pos (show ls d (first + r) (first + (2 * r + 2)) = true from hx)]
  · have hcn : ¬ (decide (2 * r + 1 + 1 < hi) && ltInt d[first + (2 * r + 1)]! d[first + (2 * r + 1) + 1]!) = true := by
      rw [Bool.and_eq_true, decide_eq_true_eq]
      rintro ⟨h3, h4⟩
      have h5 : ltInt d[first + (2 * r + 1)]! d[first + (2 * r + 1) + 1]! = false := h2 (by omega)
      rw [h5] at h4
      cases h4
    rw [if_neg hcn]
    cases hx : ltInt d[first + r]! d[first + (2 * r + 1)]!
    · rw [if_pos (by simp), if_neg (by rw [show ls d (first + r) (first + (2 * r + 1)) = false from hx]; simp)]
    · rw [if_neg (by simp), if_pos (show ls d (first + r) (first + (2 * r + 1)) = true from hx)]
end Go.Proofs.Ytkmoefgoolhegaa
