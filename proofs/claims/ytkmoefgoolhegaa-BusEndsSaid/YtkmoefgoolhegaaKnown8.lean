/- The statements' own first look at a bus. -/
import Derived.Test.YtkmoefgoolhegaaBusIn
namespace Go.Proofs.Ytkmoefgoolhegaa
open Go.ChangeShapes Go.WideShapes Go.ChangeAt Go.RowKit

def k8c : Sg := ⟨0, 3, false, false, true⟩
def k8d : Sg := ⟨100, 8, true, true, false⟩
set_option maxRecDepth 100000 in
set_option maxHeartbeats 4000000 in
theorem known8_any (w : World) : Calls Try.prog 6 #[] w fun e w' => e = .returned (.bool true) ∧ Below w.heap.size w w' := by
  go_enter Try.func6, Try.ntmps6
  go_wp2_with fail
  refine (min_new (w0 := w) _ (Below.refl _ _)).mono ?_
  rintro e w1 ⟨p, F, rfl, M1, _, _⟩
  go_wp2_with fail
  refine (bin_new M1 k8c k8d (by decide) (by decide)).mono ?_
  rintro e w2 ⟨b, F2, rfl, X2⟩
  go_wp2_with fail
  refine (bin_store X2 4 4 258 (by decide) (by decide) (by decide) (by decide)).mono ?_
  rintro e w3 ⟨F3, rfl, X3⟩
  rw [show stE k8d 4 4 = 0 from by decide]
  go_wp2_with fail
  refine (bin_load X3 4 1 (by decide) (by decide)).mono ?_
  rintro e w4 ⟨rfl, X4⟩
  rw [show ldV (stG (fun _ => 0) k8d 4 4 258) k8d 4 1 = 2 from by decide, show ldE k8d 4 1 = 0 from by decide]
  clear X2 X3
  go_wp2_with fail
  refine (bin_load X4 5 4 (by decide) (by decide)).mono ?_
  rintro e w5 ⟨rfl, X5⟩
  rw [show ldE k8d 5 4 = 24 from by decide]
  clear X4
  go_wp2_with fail
  refine (bin_fetch X5 1 15 (by decide) (by decide)).mono ?_
  rintro e w6 ⟨y, cap, rfl, _, X6⟩
  rw [show ftN k8c 1 15 = 2 from by decide]
  clear X5
  go_wp2_with fail
  refine (bin_grow X6 20 (by decide) (by decide)).mono ?_
  rintro e w7 ⟨F7, rfl, X7⟩
  rw [show growB k8d 20 = true from by decide]
  clear X6
  go_wp2_with fail
  refine (bin_grow X7 19 (by decide) (by decide)).mono ?_
  rintro e w8 ⟨F8, rfl, X8⟩
  rw [show growB (growS k8d 20) 19 = false from by decide]
  clear X7
  go_wp2_with fail
  refine (bin_memory X8).mono ?_
  rintro e w9 ⟨p9, F9, rfl, M9⟩
  go_wp2_with fail
  refine (min_get M9 104 (by decide) (by decide)).mono ?_
  rintro e w10 ⟨rfl, M10, _⟩
  rw [show stG (fun _ => 0) k8d 4 4 258 104 = 2 from by decide]
  clear X8 M9
  go_wp2_with fail
  go_ret
  exact ⟨rfl, M10.low⟩
end Go.Proofs.Ytkmoefgoolhegaa
