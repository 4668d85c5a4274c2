/- The statements' own first look at shifts; which operations shift. -/
import Derived.Test.YtceahlpchlepaaaShiftDo
namespace Go.Proofs.Ytceahlpchlepaaa
open Go.ChangeShapes Go.WideShapes Go.ChangeAt Go.RowKit

theorem rknown_any (op : Int) (w : World) : Calls Try.prog 12 #[.int .i64 op] w fun e w' => e = .returned (.bool (isSh op)) ∧ w = w' := by
  rcases shift_ways op 1 with h | ⟨h, _, ho⟩
  · have hs : isSh op = false := by unfold kept at h; simpa using h
    rcases kept_ways op 1 h with h0 | ⟨g1, g2, g3, g4, g5⟩
    · omega
    · rw [hs]; exact rknown_no op w g1 g2 g3 g4 g5
  · have hs : isSh op = true := by unfold kept at h; simpa using h
    rw [hs]; exact rknown_yes op w ho
theorem do_k1 (w : World) : Calls Try.prog 9 #[.int .i64 28, .agg #[.bool false, .bool false, .bool false, .bool false, .bool false, .bool false], .int .u32 1, .int .u32 31] w fun e w' =>
   e = .returned (.tuple #[.int .u32 2147483648, .agg #[.bool false, .bool true, .bool false, .bool true, .bool true, .bool false]]) ∧ Below w.heap.size w w' :=
  do_any 28 false false false false false false 1 31 (by decide) (by decide) (by decide) (by decide) w
theorem do_k2 (w : World) : Calls Try.prog 9 #[.int .i64 27, .agg #[.bool false, .bool false, .bool true, .bool false, .bool false, .bool false], .int .u32 1, .int .u32 1] w fun e w' =>
   e = .returned (.tuple #[.int .u32 2147483648, .agg #[.bool true, .bool false, .bool true, .bool false, .bool true, .bool false]]) ∧ Below w.heap.size w w' :=
  do_any 27 false false true false false false 1 1 (by decide) (by decide) (by decide) (by decide) w
theorem known_sar (w : World) : Calls Try.prog 11 #[.int .i64 30] w fun e w' => e = .returned (.bool true) ∧ w = w' := known_any 30 w
theorem known_add (w : World) : Calls Try.prog 11 #[.int .i64 1] w fun e w' => e = .returned (.bool false) ∧ w = w' := known_any 1 w

attribute [local go_sem] isSome_setCell
set_option maxHeartbeats 1000000 in
theorem known2_any (w : World) : Calls Try.prog 8 #[] w fun e w' => e = .returned (.bool true) ∧ Below w.heap.size w w' := by
  go_enter Try.func8, Try.ntmps8
  go_wp2_with fail
  refine (do_k1 _).mono ?_
  rintro e w1 ⟨rfl, hb⟩
  go_wp2_with fail
  refine (do_k2 _).mono ?_
  rintro e w2 ⟨rfl, hb2⟩
  have hq := six_made hb2
  have hz := bsize hb2
  go_wp2_with (go_at_call 11; first | ((with_reducible refine (known_sar _).mono ?_); rintro e w' ⟨rfl, rfl⟩) | ((with_reducible refine (known_add _).mono ?_); rintro e w' ⟨rfl, rfl⟩))
  go_ret
  exact ⟨rfl, below_last (below_next hb hb2) _⟩
end Go.Proofs.Ytceahlpchlepaaa
