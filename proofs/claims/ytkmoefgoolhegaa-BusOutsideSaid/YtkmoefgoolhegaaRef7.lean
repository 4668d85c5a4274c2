/- What the document's own segments (package salternref6) answer. -/
import Derived.Test.YtkmoefgoolhegaaRows
import Derived.Test.YtkmoefgoolhegaaPure7
import Derived.ProofKit
import Derived.OpenShut
import Derived.BigRegion
import Derived.Lib.Hide
import Derived.WalkLawsBesides
namespace Go.Proofs.Ytkmoefgoolhegaa
open Go.ChangeShapes Go.WideShapes Go.ChangeAt Go.RowKit

theorem rwithin_any (b z a : Int) (r q x : Bool) (b0 : 0 ≤ b) (b1 : b < 4294967296) (z0 : 0 ≤ z) (z1 : z < 4294967296) (a0 : 0 ≤ a) (a1 : a < 4294967296) (w : World) : Calls Try.prog 7 #[.agg #[.int .u32 b, .int .u32 z, .bool r, .bool q, .bool x], .int .u32 a] w fun e w' => e = .returned (.bool (inB b z a)) ∧ Below w.heap.size w w' := by
  rcases Int.lt_or_le a b with h | h
  · have hV := Lib.hid (show inB b z a = false by unfold inB; rw [decide_eq_false (by omega), Bool.false_and])
    go_enter Try.func7, Try.ntmps7
    go_wp2
    go_ret
    exact ⟨by rw [hV.out]; rfl, below_last (Below.refl _ _) _⟩
  · have hV := Lib.hid (show inB b z a = decide (a < b + z) by unfold inB; rw [decide_eq_true h, Bool.true_and])
    go_enter Try.func7, Try.ntmps7
    go_wp2
    go_ret
    exact ⟨by rw [hV.out]; rfl, below_last (Below.refl _ _) _⟩
end Go.Proofs.Ytkmoefgoolhegaa
