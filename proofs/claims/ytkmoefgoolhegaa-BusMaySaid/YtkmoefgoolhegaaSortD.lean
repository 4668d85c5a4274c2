/- Choosing a pivot, at rows of numbers of 32 bits: which one is chosen is not said, but that it is one of them. -/
import Derived.Test.YtkmoefgoolhegaaSortC
namespace Go.Proofs.Ytkmoefgoolhegaa
open Go.ChangeShapes Go.WideShapes Go.ChangeAt Go.RowKit Go.Maps Go.Deep Go.Sort

/-- The row d at b, a number s at S; all blocks but S are as they were in W. -/
structure RowS (W w : World) (b : Nat) (d : Array Int) (S : Nat) (s : Int) : Prop where
  cell : ∀ t, t < d.size → w.cell? ⟨b, t, none⟩ = some (.int .u32 (gt d t))
  fro : ∀ t, w.frozen? ⟨b, t, none⟩ = false
  sc : w.cell? ⟨S, 0, none⟩ = some (.int .i64 s)
  sf : w.frozen? ⟨S, 0, none⟩ = false
  but : But (· = S) W w
  ne : b ≠ S
  s0 : 0 ≤ s
theorem RowS.draws {W w : World} {b : Nat} {d : Array Int} {S : Nat} {s : Int} (h : RowS W w b d S s) : ∀ n, RowS W (w.drewN n) b d S s
  | 0 => h
  | n + 1 => have k := h.draws n; ⟨k.cell, k.fro, k.sc, k.sf, k.but.drew, k.ne, k.s0⟩
theorem RowS.put {W w : World} {b : Nat} {d : Array Int} {S : Nat} {s : Int} (h : RowS W w b d S s) (s' : Int) (h0 : 0 ≤ s') : RowS W (w.setCell ⟨S, 0, none⟩ (.int .i64 s')) b d S s' :=
  ⟨fun t ht => (World.cell?_setCell_other _ _ _ _ (by simp; intro e; exact absurd e.symm h.ne)).trans (h.cell t ht), fun t => by rw [World.frozen?_setCell]; exact h.fro t, World.cell?_setCell_same _ _ _ h.sc, by rw [World.frozen?_setCell]; exact h.sf, h.but.setCell (a := ⟨S, 0, none⟩) (fun _ => rfl) _, h.ne, h0⟩
end Go.Proofs.Ytkmoefgoolhegaa
