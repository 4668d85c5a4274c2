/- The statements' own first look: a sum and a difference that are known. -/
import Derived.Test.YtdnmbehkejjmmaaArith
import Derived.Test.YtdnmbehkejjmmaaFlags
namespace Go.Proofs.Ytdnmbehkejjmmaa
open Go.ChangeShapes Go.WideShapes Go.ChangeAt Go.RowKit

theorem add_known (w : World) : Calls Try.prog 10 #[.int .u32 255, .int .u32 1, .int .i64 1, .bool false] w fun e w' =>
   e = .returned (.tuple #[.int .u32 0, .agg #[.bool true, .bool true, .bool true, .bool false, .bool false, .bool false]]) ∧ Below w.heap.size w w' := add_any 255 1 1 false w
theorem sub_known (w : World) : Calls Try.prog 12 #[.int .u32 1, .int .u32 2, .int .i64 4, .bool false] w fun e w' =>
   e = .returned (.tuple #[.int .u32 4294967295, .agg #[.bool true, .bool true, .bool false, .bool true, .bool false, .bool false]]) ∧ Below w.heap.size w w' := sub_any 1 2 4 false w
theorem parity_3 (w : World) : Calls Try.prog 22 #[.int .u32 3] w fun e w' => e = .returned (.bool true) ∧ w = w' := parity_any 3 w
theorem parity_1 (w : World) : Calls Try.prog 22 #[.int .u32 1] w fun e w' => e = .returned (.bool false) ∧ w = w' := parity_any 1 w

attribute [local go_sem] isSome_setCell flags_guard flags_eql flags_neq
set_option maxHeartbeats 1000000 in
theorem known1_any (w : World) : Calls Try.prog 9 #[] w fun e w' => e = .returned (.bool true) ∧ Below w.heap.size w w' := by
  go_enter Try.func9, Try.ntmps9
  go_wp2_with (first | (go_at_call 10; refine (add_known _).mono ?_; rintro e w1 ⟨rfl, hb⟩; obtain ⟨hc, hf⟩ := bcell hb) |
    (go_at_call 12; refine (sub_known _).mono ?_; rintro e w2 ⟨rfl, hb2⟩; obtain ⟨hc2, hf2⟩ := bcell hb2; have hz : w1.heap.size < w2.heap.size := (by have := hb2.size; simp at this; omega)) |
    (go_at_call 22; first | ((with_reducible refine (parity_3 _).mono ?_); rintro e w' ⟨rfl, rfl⟩) | ((with_reducible refine (parity_1 _).mono ?_); rintro e w' ⟨rfl, rfl⟩)))
  go_ret
  exact ⟨rfl, (((hb.alloc hb.size _).trans (hb2.mono (by have := hb.size; simp; omega))).alloc (by have := hb.size; omega) _)⟩
end Go.Proofs.Ytdnmbehkejjmmaa
