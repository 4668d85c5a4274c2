import Derived.Test.YtgihiddiceinhaaDoorKNI12
import Derived.Test.YtgihiddiceinhaaDoorKNW
namespace Go.Proofs.YtgihiddiceinhaaDoor
open Go.ChangeShapes Go.WideShapes Go.ChangeAt Go.RowKit
theorem one_and : oneF 3 (lst [131, 224, 224]) = (andI, 0) := by kernel_rfl
theorem known12_any (w : World) (hT : TabZ w) : Calls Tryd.prog 5 #[] w fun e w' => e = .returned (.bool true) ∧ Below w.heap.size w w' :=
  known12_of (fun v w hs => by
    have := rone_any v 3 (lst [131, 224, 224]) (fun i => by
      by_cases h : i < 3
      · rcases (show i = 0 ∨ i = 1 ∨ i = 2 by omega) with rfl | rfl | rfl <;> exact ⟨by decide, by decide⟩
      · rw [show lst [131, 224, 224] i = 0 from List.getD_eq_getElem?_getD .. |>.trans (by rw [List.getElem?_eq_none (by simp; omega)]; rfl)]; exact ⟨by decide, by decide⟩) (by decide) w hs
    rwa [one_and] at this) instr_and w hT
end Go.Proofs.YtgihiddiceinhaaDoor
