/- The statements' own first look at segments. -/
import Derived.Test.YtfnbnhgcjpfdhaaSeg
namespace Go.Proofs.Ytfnbnhgcjpfdhaa
open Go.ChangeShapes Go.WideShapes Go.ChangeAt Go.RowKit

theorem sat_k1 (w : World) : Calls Try.prog 8 #[.agg #[.int .u32 5, .int .u32 4, .bool true, .bool false, .bool false], .int .u32 0, .int .i64 4, .int .i64 0] w fun e w' => e = .returned (.tuple #[.int .u32 5, .int .i64 0]) ∧ Below w.heap.size w w' := sat_any 5 4 true false false 0 4 0 (by decide) (by decide) (by decide) (by decide) (by decide) (by decide) w
theorem sat_k2 (w : World) : Calls Try.prog 8 #[.agg #[.int .u32 0, .int .u32 4, .bool true, .bool false, .bool false], .int .u32 1, .int .i64 4, .int .i64 0] w fun e w' => e = .returned (.tuple #[.int .u32 0, .int .i64 24]) ∧ Below w.heap.size w w' := sat_any 0 4 true false false 1 4 0 (by decide) (by decide) (by decide) (by decide) (by decide) (by decide) w
theorem sat_k3 (w : World) : Calls Try.prog 8 #[.agg #[.int .u32 0, .int .u32 4, .bool true, .bool false, .bool false], .int .u32 0, .int .i64 4, .int .i64 1] w fun e w' => e = .returned (.tuple #[.int .u32 0, .int .i64 25]) ∧ Below w.heap.size w w' := sat_any 0 4 true false false 0 4 1 (by decide) (by decide) (by decide) (by decide) (by decide) (by decide) w
theorem sright_k1 (w : World) : Calls Try.prog 12 #[.agg #[.int .u32 4294967295, .int .u32 1, .bool false, .bool false, .bool false]] w fun e w' => e = .returned (.bool true) ∧ Below w.heap.size w w' := sright_any 4294967295 1 false false false (by decide) (by decide) (by decide) (by decide) w
theorem sright_k2 (w : World) : Calls Try.prog 12 #[.agg #[.int .u32 4294967295, .int .u32 2, .bool false, .bool false, .bool false]] w fun e w' => e = .returned (.bool false) ∧ Below w.heap.size w w' := sright_any 4294967295 2 false false false (by decide) (by decide) (by decide) (by decide) w

set_option maxHeartbeats 1000000 in
theorem known7_any (w : World) : Calls Try.prog 7 #[] w fun e w' => e = .returned (.bool true) ∧ Below w.heap.size w w' := by
  go_enter Try.func7, Try.ntmps7
  go_wp2_with fail
  refine (sat_k1 _).mono ?_
  rintro e w1 ⟨rfl, hb⟩
  go_wp2_with fail
  refine (sat_k2 _).mono ?_
  rintro e w2 ⟨rfl, hb2⟩
  go_wp2_with fail
  refine (sat_k3 _).mono ?_
  rintro e w3 ⟨rfl, hb3⟩
  go_wp2_with fail
  refine (sright_k1 _).mono ?_
  rintro e w4 ⟨rfl, hb4⟩
  go_wp2_with fail
  refine (sright_k2 _).mono ?_
  rintro e w5 ⟨rfl, hb5⟩
  go_wp2_with fail
  go_ret
  have B2 := hb.trans (hb2.mono hb.size)
  have B3 := B2.trans (hb3.mono B2.size)
  have B4 := B3.trans (hb4.mono B3.size)
  exact ⟨rfl, B4.trans (hb5.mono B4.size)⟩
end Go.Proofs.Ytfnbnhgcjpfdhaa
