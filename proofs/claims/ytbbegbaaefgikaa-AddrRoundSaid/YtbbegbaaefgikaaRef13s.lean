/- The document's registers (package salternref13): Set. -/
import Derived.Test.YtbbegbaaefgikaaRef13
import Derived.Test.YtbbegbaaefgikaaBits13
import Derived.Test.YtbbegbaaefgikaaAnsw
import Derived.Deep.CutBlock
import Derived.StillTailTactics
namespace Go.Proofs.Ytbbegbaaefgikaa
set_option maxRecDepth 100000
open Go.ChangeShapes Go.WideShapes Go.ChangeAt Go.RowKit

theorem heap_three {w W : World} {o p q : Obj} (h : W = ((w.alloc o).alloc p).alloc q) : W.heap[w.heap.size]? = some o ∧ W.heap[w.heap.size + 1]? = some p ∧ W.heap[w.heap.size + 2]? = some q ∧ Below w.heap.size w W := by
  obtain ⟨h1, h2, h3⟩ := heap_two (W := (w.alloc o).alloc p) rfl
  have hk : ∀ k, k < ((w.alloc o).alloc p).heap.size → W.heap[k]? = ((w.alloc o).alloc p).heap[k]? := fun k hk => by
    rw [h]
    exact (below_last (Below.refl _ _) q).block k hk
  refine ⟨(hk _ (by simp; omega)).trans h1, (hk _ (by simp)).trans h2, ?_, by rw [h]; exact below_last h3 _⟩
  rw [h]
  show (((w.alloc o).alloc p).heap.push q)[w.heap.size + 2]? = _
  rw [show w.heap.size + 2 = ((w.alloc o).alloc p).heap.size by simp]
  exact Array.getElem?_push_size
theorem sta_put (s : Sta) (i : Nat) (h : i < 8) (v : Int) : (staL s).toArray.setIfInBounds i (.int .u32 v) = (staL { s with r := putN s.r i v }).toArray := by
  rcases (show i = 0 ∨ i = 1 ∨ i = 2 ∨ i = 3 ∨ i = 4 ∨ i = 5 ∨ i = 6 ∨ i = 7 by omega) with rfl | rfl | rfl | rfl | rfl | rfl | rfl | rfl <;> rfl
theorem sta_putX (s : Sta) (i : Nat) (h : i < 8) (v : Int) : (staL s).toArray.setIfInBounds (15 + i) (.int .u64 v) = (staL { s with x := putN s.x i v }).toArray := by
  rcases (show i = 0 ∨ i = 1 ∨ i = 2 ∨ i = 3 ∨ i = 4 ∨ i = 5 ∨ i = 6 ∨ i = 7 by omega) with rfl | rfl | rfl | rfl | rfl | rfl | rfl | rfl <;> rfl
theorem sta_one (s : Sta) : (staL s).toArray.all (·.oneCell') = true := by simp [staL, Value.oneCell']
/-- what lies there: the state, where it is answered -/
structure SB (w : World) (A : Nat) (t : Sta) (u : World) : Prop where
  b : u.heap[w.heap.size]? = some (.cells (staL t).toArray 29 (0, 0))
  a : ∃ C, u.heap[A]? = some (.cells C 29 (0, 0)) ∧ C.size = 23
  lt : w.heap.size < A
  bel : Below w.heap.size w u
theorem SB.set {w u : World} {A : Nat} {t t' : Sta} (h : SB w A t u) (k : Nat) (v : Value) (e : (staL t).toArray.setIfInBounds k v = (staL t').toArray) : SB w A t' (u.setCell ⟨w.heap.size, k, none⟩ v) := by
  obtain ⟨C, hC, hz⟩ := h.a
  refine ⟨?_, ⟨C, (other_setCell (Nat.ne_of_gt h.lt) k v).trans hC, hz⟩, h.lt, h.bel.setCell (Nat.le_refl _) v⟩
  rw [← e]
  exact block_setCell h.b k v
theorem SB.range {w u : World} {A : Nat} {t : Sta} (h : SB w A t u) : u.rangeAt w.heap.size 0 (staL t) := fun j v hj => by
  rw [Nat.zero_add, (cell_block h.b j).1]
  simpa using hj
theorem SB.there {w u : World} {A : Nat} {t : Sta} (h : SB w A t u) : u.there A 0 23 := by
  obtain ⟨C, hC, hz⟩ := h.a
  exact there_block hC 0 23 (by omega)
theorem SB.drew {w u : World} {A : Nat} {t : Sta} (h : SB w A t u) : SB w A t u.drew := ⟨h.b, h.a, h.lt, h.bel.drew⟩
end Go.Proofs.Ytbbegbaaefgikaa
