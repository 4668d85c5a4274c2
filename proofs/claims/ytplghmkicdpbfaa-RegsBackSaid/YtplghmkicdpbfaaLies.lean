/- Structs that lie in memory over calls: the part that knows nothing of any layer. -/
import Derived.Test.YtplghmkicdpbfaaAnsw
import Derived.Test.YtplghmkicdpbfaaShr10
namespace Go.Proofs.Ytplghmkicdpbfaa
open Go.ChangeShapes Go.WideShapes Go.ChangeAt Go.RowKit

theorem range_below {w w' : World} (hb : Below w.heap.size w w') {B o : Nat} {cs : List Value} (h : w.rangeAt B o cs) : w'.rangeAt B o cs := range_but (F := fun _ => False) (But.of_below hb) (fun h => h) h
/-- what was made behind w lies there -/
structure Lies (w : World) (l : List (Nat × List Value)) (u : World) : Prop where
  below : Below w.heap.size w u
  all : ∀ p ∈ l, p.1 < u.heap.size ∧ u.rangeAt p.1 0 p.2
theorem Lies.none {w u : World} (h : Below w.heap.size w u) : Lies w [] u := ⟨h, fun p hp => by cases hp⟩
theorem Lies.on {w u u' : World} {l : List (Nat × List Value)} (h : Lies w l u) (hb : Below u.heap.size u u') : Lies w l u' :=
  ⟨below_step h.below hb, fun p hp => ⟨Nat.lt_of_lt_of_le (h.all p hp).1 hb.size, range_below hb (h.all p hp).2⟩⟩
theorem Lies.drew {w u : World} {l : List (Nat × List Value)} (h : Lies w l u) : Lies w l { u with drawn := u.drawn + 1 } := ⟨h.below.drew, fun p hp => ⟨(h.all p hp).1, (h.all p hp).2⟩⟩
theorem Lies.alloc {w u : World} {l : List (Nat × List Value)} (h : Lies w l u) (o : Obj) : Lies w l (u.alloc o) := h.on (below_last (Below.refl _ _) _)
/-- one more struct is stored where it was just made -/
theorem Lies.put {w u : World} {l : List (Nat × List Value)} (h : Lies w l u) (C : Array Value) (T : TypeId) (cs : List Value) (hC : cs.length ≤ C.size) (B : Nat) (hB : B = u.heap.size) (Y : World) (hY : Y = (u.alloc (.cells C T)).setCells B 0 cs) : Lies w ((B, cs) :: l) Y := by
  subst hB hY
  refine ⟨below_setCells h.below.size _ _ _ (below_last h.below _), fun p hp => ?_⟩
  rcases List.mem_cons.1 hp with rfl | hp
  · exact ⟨by rw [setCells_size]; simp, World.rangeAt_setCells_same _ _ _ _ (there_alloc_new u C T _ hC)⟩
  · obtain ⟨h1, h2⟩ := h.all p hp
    exact ⟨by rw [setCells_size]; simp; omega, World.rangeAt_setCells_apart (World.rangeAt_alloc h2 _) _ _ _ (.inl (by omega))⟩
theorem Lies.lit {w u : World} {l : List (Nat × List Value)} (h : Lies w l u) (C : Array Value) (T : TypeId) (B : Nat) (hB : B = u.heap.size) : Lies w ((B, C.toList) :: l) (u.alloc (.cells C T)) := by
  subst hB
  refine ⟨below_last h.below _, fun p hp => ?_⟩
  rcases List.mem_cons.1 hp with rfl | hp
  · refine ⟨by simp, fun j v hj => ?_⟩
    rw [Nat.zero_add, World.cell?_alloc_new]
    simpa using hj
  · obtain ⟨h1, h2⟩ := h.all p hp
    exact ⟨by simp; omega, World.rangeAt_alloc h2 _⟩
theorem Lies.at_ {w u : World} {l : List (Nat × List Value)} (h : Lies w l u) (B : Nat) (cs : List Value) (hm : (B, cs) ∈ l) : u.rangeAt B 0 cs := (h.all _ hm).2
/-- a part of what lies there -/
theorem range_part {u : World} {B : Nat} {cs : List Value} (h : u.rangeAt B 0 cs) (o : Nat) (l : List Value) (hl : (cs.drop o).take l.length = l) : u.rangeAt B o l := fun i v hi => by
  have hlt := (List.getElem?_eq_some_iff.1 hi).1
  rw [← hl] at hi
  have h2 := h (o + i) v (by simpa [List.getElem?_take, List.getElem?_drop, hlt] using hi)
  rwa [Nat.zero_add] at h2
end Go.Proofs.Ytplghmkicdpbfaa
