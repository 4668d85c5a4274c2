/- What each function of package arith answers, for every input: the number and the flags. -/
import Derived.Test.YtbbegbaaefgikaaRows
import Derived.Test.YtbbegbaaefgikaaPure1
import Derived.ProofKit
import Derived.OpenShut
import Derived.BigRegion
import Derived.Lib.Hide
namespace Go.Proofs.Ytbbegbaaefgikaa
set_option maxRecDepth 100000
open Go.ChangeShapes Go.WideShapes Go.ChangeAt Go.RowKit

theorem width_any (n : Int) (w : World) : Calls Try.prog 37 #[.int .i64 n] w fun e w' => e = .returned (.int .u64 (wid n)) ∧ w = w' := by
  by_cases h : n < 2
  · go_enter Try.func37, Try.ntmps37
    go_wp2
    go_ret
    exact ⟨by simp [wid, h], rfl⟩
  · by_cases h4 : n < 4
    all_goals
      go_enter Try.func37, Try.ntmps37
      go_wp2
      go_ret
      exact ⟨by rw [wid, if_neg (by omega)]; first | rw [if_pos (by omega)]; rfl | rw [if_neg (by omega)]; rfl, rfl⟩

theorem cut_any (v n : Int) (w : World) : Calls Try.prog 34 #[.int .u32 v, .int .i64 n] w fun e w' => e = .returned (.int .u32 (cut v n)) ∧ w = w' := by
  have hl := wid_lo n
  have hh := wid_hi n
  have hE := Lib.hid (cut_eq v n)
  go_enter Try.func34, Try.ntmps34
  go_wp2_with (go_at_call 37; refine (width_any _ _).mono ?_; rintro e w' ⟨rfl, rfl⟩)
  go_ret
  exact ⟨by rw [← hE.out]; rfl, rfl⟩

end Go.Proofs.Ytbbegbaaefgikaa
