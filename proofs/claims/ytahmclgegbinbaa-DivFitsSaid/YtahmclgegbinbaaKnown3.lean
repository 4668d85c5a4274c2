/- The statements' own first look at products and quotients; a number near an edge. -/
import Derived.Test.YtahmclgegbinbaaMuldiv
namespace Go.Proofs.Ytahmclgegbinbaa
open Go.ChangeShapes Go.WideShapes Go.ChangeAt Go.RowKit

theorem div_k1 (w : World) : Calls Try.prog 15 #[.int .u32 0, .int .u32 7, .int .u32 2] w fun e w' =>
   e = .returned (.tuple #[.int .u32 3, .int .u32 1, .bool true]) ∧ Below w.heap.size w w' := div_any 0 7 2 (by decide) (by decide) (by decide) (by decide) (by decide) (by decide) w
theorem div_k2 (w : World) : Calls Try.prog 15 #[.int .u32 1, .int .u32 0, .int .u32 1] w fun e w' =>
   e = .returned (.tuple #[.int .u32 0, .int .u32 0, .bool false]) ∧ Below w.heap.size w w' := div_any 1 0 1 (by decide) (by decide) (by decide) (by decide) (by decide) (by decide) w
theorem mul_k1 (w : World) : Calls Try.prog 11 #[.agg #[.bool false, .bool false, .bool false, .bool false, .bool false, .bool false], .int .u32 2147483648, .int .u32 2] w fun e w' =>
   e = .returned (.tuple #[.int .u32 1, .int .u32 0, .agg #[.bool true, .bool false, .bool false, .bool false, .bool true, .bool false]]) ∧ Below w.heap.size w w' :=
  mul_any false false false false false false 2147483648 2 (by decide) (by decide) (by decide) (by decide) w

attribute [local go_sem] isSome_setCell
set_option maxHeartbeats 1000000 in
theorem known3_any (w : World) : Calls Try.prog 9 #[] w fun e w' => e = .returned (.bool true) ∧ Below w.heap.size w w' := by
  go_enter Try.func9, Try.ntmps9
  go_wp2_with fail
  refine (div_k1 _).mono ?_
  rintro e w1 ⟨rfl, hb⟩
  go_wp2_with fail
  refine (div_k2 _).mono ?_
  rintro e w2 ⟨rfl, hb2⟩
  go_wp2_with fail
  refine (mul_k1 _).mono ?_
  rintro e w3 ⟨rfl, hb3⟩
  go_wp2_with fail
  go_ret
  exact ⟨rfl, below_last ((hb.trans (hb2.mono hb.size)).trans (hb3.mono (Nat.le_trans hb.size hb2.size))) _⟩

/-- The statements' own choice of a number near an edge. -/
theorem near_any (v k : Int) (h0 : 0 ≤ v) (h1 : v < 4294967296) (k0 : 0 ≤ k) (k1 : k < 256) (w : World) : Calls Try.prog 10 #[.int .u32 v, .int .u8 k] w fun e w' =>
   ∃ x : Int, 0 ≤ x ∧ x < 4294967296 ∧ e = .returned (.int .u32 x) ∧ Below w.heap.size w w' := by
  obtain ⟨j, hj⟩ : ∃ j : Nat, k % 9 = j := ⟨(k % 9).toNat, by omega⟩
  have hj9 : j < 9 := by omega
  go_enter Try.func10, Try.ntmps10
  go_wp2
  go_ret
  have m0 := and_lo v 15 h0 h1 (by decide) (by decide)
  have m1 := and_hi v 15 h0 h1 (by decide) (by decide)
  clear hj
  obtain rfl | rfl | rfl | rfl | rfl | rfl | rfl | rfl | rfl : j = 0 ∨ j = 1 ∨ j = 2 ∨ j = 3 ∨ j = 4 ∨ j = 5 ∨ j = 6 ∨ j = 7 ∨ j = 8 := by omega
  all_goals
    refine ⟨_, ?_, ?_, rfl, below_last (Below.refl _ _) _⟩
    all_goals omega
end Go.Proofs.Ytahmclgegbinbaa
