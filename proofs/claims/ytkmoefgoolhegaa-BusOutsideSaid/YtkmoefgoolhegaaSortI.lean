/- Sorting what is nearly sorted. -/
import Derived.Test.YtkmoefgoolhegaaSortH
namespace Go.Proofs.Ytkmoefgoolhegaa
open Go.ChangeShapes Go.WideShapes Go.ChangeAt Go.RowKit Go.Maps Go.Deep Go.Sort

theorem scanS_go (d : Array Int) (b i : Nat) (h : i < b) (hl : ls d i (i - 1) = false) : scanSorted ltInt d b i = scanSorted ltInt d b (i + 1) := by
  rw [scanSorted.eq_def, if_pos]
  simp only [Bool.and_eq_true, decide_eq_true_eq]
  exact ⟨h, by rw [show ltInt d[i]! d[i - 1]! = false from hl]; rfl⟩
theorem scanS_stop (d : Array Int) (b i : Nat) (h : b ≤ i ∨ ls d i (i - 1) = true) : scanSorted ltInt d b i = i := by
  rw [scanSorted.eq_def, if_neg]
  simp only [Bool.and_eq_true, decide_eq_true_eq]
  rintro ⟨h1, h2⟩
  rcases h with h | h
  · omega
  · rw [show ltInt d[i]! d[i - 1]! = true from h] at h2; cases h2
theorem shiftD_go (d : Array Int) (j : Nat) (h : 1 ≤ j) (hl : ls d j (j - 1) = true) : shiftDown ltInt j d = shiftDown ltInt (j - 1) (swp d j (j - 1)) := by
  obtain ⟨k, rfl⟩ : ∃ k, j = k + 1 := ⟨j - 1, by omega⟩
  rw [shiftDown]
  rw [if_neg (by rw [show ltInt d[k + 1]! d[k]! = true from hl]; simp)]
  rfl
theorem shiftD_stop (d : Array Int) (j : Nat) (h : j = 0 ∨ ls d j (j - 1) = false) : shiftDown ltInt j d = d := by
  cases j with
  | zero => rw [shiftDown]
  | succ k =>
    rw [shiftDown]
    rcases h with h | h
    · omega
    · rw [if_pos (by rw [show ltInt d[k + 1]! d[k]! = false from h]; rfl)]
theorem shiftU_go (d : Array Int) (b j : Nat) (h : j < b) (hl : ls d j (j - 1) = true) : shiftUp ltInt b j d = shiftUp ltInt b (j + 1) (swp d j (j - 1)) := by
  rw [shiftUp.eq_def, if_pos h, if_neg (by rw [show ltInt d[j]! d[j - 1]! = true from hl]; simp)]
theorem shiftU_stop (d : Array Int) (b j : Nat) (h : b ≤ j ∨ ls d j (j - 1) = false) : shiftUp ltInt b j d = d := by
  rw [shiftUp.eq_def]
  by_cases h0 : j < b
  · rw [if_pos h0]
    rcases h with h | h
    · omega
    · rw [if_pos (by rw [show ltInt d[j]! d[j - 1]! = false from h]; rfl)]
  · rw [if_neg h0]
theorem shiftD_size : ∀ (j : Nat) (d : Array Int), (shiftDown ltInt j d).size = d.size
  | 0, d => by rw [shiftDown]
  | j + 1, d => by
    rw [shiftDown]
    split
    · rfl
    · rw [shiftD_size j, size_swp]
theorem shiftU_size (b : Nat) : ∀ (k j : Nat) (d : Array Int), b - j ≤ k → (shiftUp ltInt b j d).size = d.size
  | k, j, d, h => by
    rw [shiftUp.eq_def]
    split
    · split
      · rfl
      · match k, h with
        | k + 1, h => rw [shiftU_size b k (j + 1) _ (by omega), size_swp]
        | 0, h => omega
    · rfl
end Go.Proofs.Ytkmoefgoolhegaa
