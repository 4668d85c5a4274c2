/- The statements' own first look at conditions. -/
import Derived.Test.YtknpcohllghopaaCond
namespace Go.Proofs.Ytknpcohllghopaa
open Go.ChangeShapes Go.WideShapes Go.ChangeAt Go.RowKit

theorem cholds_k1 (w : World) : Calls Try.prog 7 #[.int .i64 4, .agg #[.bool false, .bool false, .bool true, .bool false, .bool false, .bool false]] w fun e w' => e = .returned (.bool true) ∧ Below w.heap.size w w' := cholds_any 4 false false true false false false (by decide) (by decide) w
theorem cholds_k2 (w : World) : Calls Try.prog 7 #[.int .i64 5, .agg #[.bool false, .bool false, .bool true, .bool false, .bool false, .bool false]] w fun e w' => e = .returned (.bool false) ∧ Below w.heap.size w w' := cholds_any 5 false false true false false false (by decide) (by decide) w
theorem cname_k1 (w : World) : Calls Try.prog 9 #[.int .i64 15] w fun e w' => e = .returned (.string ⟨#[103]⟩) ∧ Below w.heap.size w w' := cname_any 15 w
theorem cname_k2 (w : World) : Calls Try.prog 9 #[.int .i64 16] w fun e w' => e = .returned (.string ⟨#[]⟩) ∧ Below w.heap.size w w' := cname_any 16 w
set_option maxRecDepth 100000 in
set_option maxHeartbeats 2000000 in
theorem known5_any (w : World) : Calls Try.prog 6 #[] w fun e w' => e = .returned (.bool true) ∧ Below w.heap.size w w' := by
  go_enter Try.func6, Try.ntmps6
  have B0 := Below.refl w.heap.size w
  go_wp2_with fail
  refine (cholds_k1 _).mono ?_
  rintro e w1 ⟨rfl, hb1⟩
  have B1 := B0.trans (hb1.mono B0.size)
  go_wp2_with fail
  refine (cholds_k2 _).mono ?_
  rintro e w2 ⟨rfl, hb2⟩
  have B2 := B1.trans (hb2.mono B1.size)
  go_wp2_with fail
  refine (cname_k1 _).mono ?_
  rintro e w3 ⟨rfl, hb3⟩
  have B3 := B2.trans (hb3.mono B2.size)
  go_wp2_with fail
  refine (cname_k2 _).mono ?_
  rintro e w4 ⟨rfl, hb4⟩
  have B4 := B3.trans (hb4.mono B3.size)
  go_wp2_with fail
  go_ret
  exact ⟨by simp, B4⟩
end Go.Proofs.Ytknpcohllghopaa
