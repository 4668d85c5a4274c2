/- The statements' own choice of a double near an edge. -/
import Derived.Test.YtjapmkaapciegaaKnown4
namespace Go.Proofs.Ytjapmkaapciegaa
open Go.ChangeShapes Go.WideShapes Go.ChangeAt Go.RowKit
attribute [local go_sem] isSome_setCell
set_option maxRecDepth 100000 in
set_option maxHeartbeats 2000000 in
theorem double_any (k : Nat) (k1 : k < 18446744073709551616) (w : World) : Calls Try.prog 12 #[.int .u64 (k : Int)] w fun e w' =>
   ∃ d : Nat, d < 18446744073709551616 ∧ e = .returned (.int .u64 (d : Int)) ∧ Below w.heap.size w w' := by
  by_cases h : k % 4 = 0
  · have hz : ((k : Int) % 4 == 0) = true := by rw [beq_iff_eq]; omega
    clear h
    go_enter Try.func12, Try.ntmps12
    go_wp2
    go_ret
    exact ⟨k, k1, rfl, below_last (Below.refl _ _) _⟩
  · have hz : ((k : Int) % 4 == 0) = false := by rw [beq_eq_false_iff_ne]; omega
    clear h
    obtain ⟨j, hj⟩ : ∃ j : Nat, (k : Int) / 4 % 18 = j := ⟨k / 4 % 18, by omega⟩
    have hj18 : j < 18 := by omega
    go_enter Try.func12, Try.ntmps12
    go_wp2
    go_ret
    clear hj
    refine ⟨[0, 9223372036854775808, 4607182418800017408, 13830554455654793216, 9218868437227405312, 18442240474082181120, 9221120237041090561, 9218868437227405313, 18444492273895866368, 1, 9223372036854775809, 9218868437227405311, 4746794007248502784, 13970166044105375744, 4746794007244308480, 4602678819172646912, 4613937818241073152, 4503599627370496][j], ?_, ?_, below_last (Below.refl _ _) _⟩
    all_goals
      obtain rfl | rfl | rfl | rfl | rfl | rfl | rfl | rfl | rfl | rfl | rfl | rfl | rfl | rfl | rfl | rfl | rfl | rfl : j = 0 ∨ j = 1 ∨ j = 2 ∨ j = 3 ∨ j = 4 ∨ j = 5 ∨ j = 6 ∨ j = 7 ∨ j = 8 ∨ j = 9 ∨ j = 10 ∨ j = 11 ∨ j = 12 ∨ j = 13 ∨ j = 14 ∨ j = 15 ∨ j = 16 ∨ j = 17 := by omega
      all_goals first | rfl | simp
end Go.Proofs.Ytjapmkaapciegaa
