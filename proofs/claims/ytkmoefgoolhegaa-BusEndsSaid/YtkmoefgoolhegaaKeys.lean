/- The keys of a map of pages come, each once, in some order (maps.Keys and its iterator). -/
import Derived.Test.YtkmoefgoolhegaaPage
import Derived.Sort.MapsRangeIn
import Derived.RangeFuncBox
import Derived.RangeFuncNested
import Derived.RangeFuncBound
import Derived.RangeFuncCalls
import Derived.RangeFuncLeaves
import Derived.Shelf.Abstract
import Derived.Shelf.RegionOpen
import Derived.WalkKit
import Derived.OwnWalkIn
import Derived.TacticsInMore
import Derived.LoopNIn
import Derived.LoopIn
import Derived.Maps.AppendAt
namespace Go.Proofs.Ytkmoefgoolhegaa
open Go.RowKit Go.Maps Go.Shelf

/-- What has come: no key twice; just those keys that are no longer to come. -/
def Came (D : DataW Unit) (left : Lit → Bool) (ss : List Int) : Prop := ss.Nodup ∧ ∀ x, x ∈ ss ↔ (Maps.has D (.int .u32 x) = true ∧ left (.int .u32 x) = false)
theorem Came.start (D : DataW Unit) : Came D (Maps.has D) [] := ⟨List.nodup_nil, fun x => ⟨fun h => (by cases h), fun h => absurd (h.1.symm.trans h.2) (by simp)⟩⟩
theorem Came.step {D : DataW Unit} {left : Lit → Bool} {ss : List Int} (h : Came D left ss) {x : Int} (hl : left (.int .u32 x) = true) (hh : Maps.has D (.int .u32 x) = true) : Came D (fun z => left z && !z.sameKey (.int .u32 x)) (ss ++ [x]) := by
  have hx : x ∉ ss := fun hx => by have := (h.2 x).1 hx; rw [hl] at this; exact absurd this.2 (by simp)
  refine ⟨by rw [List.nodup_append]; exact ⟨h.1, by simp, by rintro a ha b hb rfl; simp at hb; subst hb; exact hx ha⟩, fun y => ?_⟩
  rw [List.mem_append, h.2 y]
  by_cases hy : y = x
  · subst hy
    simp [hh, Lit.sameKey]
  · simp [hy, Lit.sameKey]
/-- all keys, each once -/
def Keyful (D : DataW Unit) (ss : List Int) : Prop := ss.Nodup ∧ (∀ x, x ∈ ss ↔ Maps.has D (.int .u32 x) = true) ∧ ss.length ≤ Maps.size D

end Go.Proofs.Ytkmoefgoolhegaa
