import Derived.Test.YtbbegbaaefgikaaKTC
import Derived.Test.YtbbegbaaefgikaaKTQ
namespace Go.Proofs.Ytbbegbaaefgikaa
section
open Go.ChangeShapes Go.WideShapes Go.ChangeAt Go.RowKit Go.Maps Go.Deep
set_option maxRecDepth 100000
def sgL (s : Sg) : List Value := [.int .u32 s.b, .int .u32 s.z, .bool s.r, .bool s.q, .bool s.x]
def rbL (p : Nat) (c d : Sg) : List Value := [.pointer (some ⟨p, 0, none⟩), .int .u32 c.b, .int .u32 c.z, .bool c.r, .bool c.q, .bool c.x, .int .u32 d.b, .int .u32 d.z, .bool d.r, .bool d.q, .bool d.x]
structure RAt (w : World) (b p B : Nat) (F : Nat → Prop) (g : Int → Int) (c d : Sg) : Prop where
  bus : w.heap[b]? = some (.cells (rbL p c d).toArray 58 (0, 0))
  ptr : w.cell? ⟨p, 0, none⟩ = some (.map (some B))
  map : RefMap w B 4294967296 g
  own : ∀ k, F k ↔ (k = b ∨ k = p ∨ k = B)
  bp : b ≠ p
  bB : b ≠ B
  pB : p ≠ B
  ok : c.ok ∧ d.ok
def RBus (w : World) (b : Nat) (F : Nat → Prop) (g : Int → Int) (c d : Sg) : Prop := ∃ p B, RAt w b p B F g c d
theorem RAt.but {F G : Nat → Prop} {w w' : World} {b p B : Nat} {g : Int → Int} {c d : Sg} (h : RAt w b p B F g c d) (hb : But G w w') (hn : ∀ k, F k → ¬ G k) : RAt w' b p B F g c d :=
  ⟨(hb.block b (Array.getElem?_eq_some_iff.1 h.bus).1 (hn b ((h.own b).2 (.inl rfl)))).trans h.bus, hb.cell h.ptr (hn p ((h.own p).2 (.inr (.inl rfl)))), h.map.but hb (hn B ((h.own B).2 (.inr (.inr rfl)))), h.own, h.bp, h.bB, h.pB, h.ok⟩
theorem RBus.but {F G : Nat → Prop} {w w' : World} {b : Nat} {g : Int → Int} {c d : Sg} (h : RBus w b F g c d) (hb : But G w w') (hn : ∀ k, F k → ¬ G k) : RBus w' b F g c d := by
  obtain ⟨p, B, h⟩ := h
  exact ⟨p, B, h.but hb hn⟩
theorem RBus.below {F : Nat → Prop} {w w' : World} {b : Nat} {g : Int → Int} {c d : Sg} (h : RBus w b F g c d) (hb : Below w.heap.size w w') : RBus w' b F g c d :=
  h.but (G := fun _ => False) (But.of_below hb) (fun _ _ h => h)
theorem RAt.lt {F : Nat → Prop} {w : World} {b p B : Nat} {g : Int → Int} {c d : Sg} (h : RAt w b p B F g c d) (k : Nat) (hk : F k) : k < w.heap.size := by
  rcases (h.own k).1 hk with rfl | rfl | rfl
  · exact (Array.getElem?_eq_some_iff.1 h.bus).1
  · exact cell_lt h.ptr
  · obtain ⟨D, hm, _⟩ := h.map
    exact hm.lt
theorem RBus.lt {F : Nat → Prop} {w : World} {b : Nat} {g : Int → Int} {c d : Sg} (h : RBus w b F g c d) (k : Nat) (hk : F k) : k < w.heap.size := by
  obtain ⟨p, B, h⟩ := h
  exact h.lt k hk
theorem RBus.byte {F : Nat → Prop} {w : World} {b : Nat} {g : Int → Int} {c d : Sg} (h : RBus w b F g c d) (a : Int) : 0 ≤ g a ∧ g a < 256 := by
  obtain ⟨p, B, h⟩ := h
  obtain ⟨D, _, _, _, hg, _⟩ := h.map
  exact hg a
theorem info_sg : (Try.prog.info? 56).map (·.size) = some 5 := by kernel_rfl
theorem RAt.data {F : Nat → Prop} {w : World} {b p B : Nat} {g : Int → Int} {c d : Sg} (h : RAt w b p B F g c d) : w.rangeAt b 6 (sgL d) := fun j v hj => by
  have hj5 : j < 5 := (List.getElem?_eq_some_iff.1 hj).1
  have hc := (cell_block h.bus (6 + j)).1
  rw [hc]
  rcases (show j = 0 ∨ j = 1 ∨ j = 2 ∨ j = 3 ∨ j = 4 by omega) with rfl | rfl | rfl | rfl | rfl <;> exact hj
theorem RAt.code {F : Nat → Prop} {w : World} {b p B : Nat} {g : Int → Int} {c d : Sg} (h : RAt w b p B F g c d) : w.rangeAt b 1 (sgL c) := fun j v hj => by
  have hj5 : j < 5 := (List.getElem?_eq_some_iff.1 hj).1
  have hc := (cell_block h.bus (1 + j)).1
  rw [hc]
  rcases (show j = 0 ∨ j = 1 ∨ j = 2 ∨ j = 3 ∨ j = 4 by omega) with rfl | rfl | rfl | rfl | rfl <;> exact hj
theorem RBus.code {F : Nat → Prop} {w : World} {b : Nat} {g : Int → Int} {c d : Sg} (h : RBus w b F g c d) : w.rangeAt b 1 (sgL c) := by obtain ⟨p, B, h⟩ := h; exact h.code
theorem RBus.data {F : Nat → Prop} {w : World} {b : Nat} {g : Int → Int} {c d : Sg} (h : RBus w b F g c d) : w.rangeAt b 6 (sgL d) := by obtain ⟨p, B, h⟩ := h; exact h.data
theorem RAt.next {F : Nat → Prop} {w w' : World} {b p B m : Nat} {g g' : Int → Int} {c d : Sg} (h : RAt w b p B F g c d) (hb : But (· = B) w w') (hm : RefMap w' B m g') : RAt w' b p B F g' c d :=
  ⟨(hb.block b (Array.getElem?_eq_some_iff.1 h.bus).1 h.bB).trans h.bus, hb.cell h.ptr h.pB, hm.few, h.own, h.bp, h.bB, h.pB, h.ok⟩
theorem writeG_twice (g : Int → Int) (a : Int) (bs : Nat → Int) (n : Nat) (hn : n ≤ 4294967296) : writeG (writeG g a bs n) a bs n = writeG g a bs n := by
  funext q
  by_cases h : ∃ i, i < n ∧ q = place a i
  · obtain ⟨i, hi, rfl⟩ := h
    rw [writeG_hit _ a bs n i hn hi, writeG_hit _ a bs n i hn hi]
  · exact writeG_far _ a bs q n (fun i hi e => h ⟨i, hi, e⟩)
theorem stG_twice (g : Int → Int) (d : Sg) (off size v : Int) : stG (stG g d off size v) d off size v = stG g d off size v := by
  unfold stG
  by_cases h : stE d off size = 0
  · rw [if_pos h, if_pos h]
    exact writeG_twice g _ _ _ (by have := widN_hi size; omega)
  · rw [if_neg h, if_neg h]
end
end Go.Proofs.Ytbbegbaaefgikaa
