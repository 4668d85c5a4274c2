import Derived.Test.YtgihiddiceinhaaDoorKNC
namespace Go.Proofs.YtgihiddiceinhaaDoor
open Go.ChangeShapes Go.WideShapes Go.ChangeAt Go.RowKit
theorem rin_any (v a b : Int) (w : World) : Calls Tryd.prog 14 #[.int .i64 v, .int .i64 a, .int .i64 b] w fun e w' => e = .returned (.bool (decide (a ≤ v ∧ v ≤ b))) ∧ w = w' := by
  by_cases h0 : a ≤ v
  · by_cases h7 : v ≤ b
    · rw [show decide (a ≤ v ∧ v ≤ b) = true by simp [h0, h7]]
      have e0 : decide (v ≥ a) = true := by simpa using h0
      have e0' : decide (a ≤ v) = true := by simpa using h0
      have e7 : decide (v ≤ b) = true := by simpa using h7
      go_enter Tryd.func14, Tryd.ntmps14
      go_wp2
      go_ret
      simp
    · rw [show decide (a ≤ v ∧ v ≤ b) = false by simp [h7]]
      have e0 : decide (v ≥ a) = true := by simpa using h0
      have e0' : decide (a ≤ v) = true := by simpa using h0
      have e7 : decide (v ≤ b) = false := by simpa using h7
      go_enter Tryd.func14, Tryd.ntmps14
      go_wp2
      go_ret
      simp
  · rw [show decide (a ≤ v ∧ v ≤ b) = false by simp [h0]]
    have e0 : decide (v ≥ a) = false := by simpa using h0
    have e0' : decide (a ≤ v) = false := by simpa using h0
    go_enter Tryd.func14, Tryd.ntmps14
    go_wp2
    go_ret
    simp
end Go.Proofs.YtgihiddiceinhaaDoor
