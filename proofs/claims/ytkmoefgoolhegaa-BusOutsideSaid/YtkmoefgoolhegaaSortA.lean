/- Rows of numbers that are sorted (package slices at []uint32): the words, Less, insertion sort. -/
import Derived.Test.YtkmoefgoolhegaaPage
import Derived.Sort.AssemblyPlain
import Derived.Sort.Row
import Derived.BigGuard
import Derived.BigCall
import Derived.BigQuiet
import Derived.CellFam
import Derived.Deep.Draws
import Derived.Deep.QuietTactic
import Derived.Deep.DeepCutAuto
namespace Go.Proofs.Ytkmoefgoolhegaa
open Go.ChangeShapes Go.WideShapes Go.ChangeAt Go.RowKit Go.Maps Go.Deep Go.Sort

/-- number t of a row -/
def gt (d : Array Int) (t : Nat) : Int := d[t]!
theorem gt_swp (d : Array Int) (i j t : Nat) (hi : i < d.size) (hj : j < d.size) : gt (swp d i j) t = if t = j then gt d i else if t = i then gt d j else gt d t := by
  unfold gt swp
  by_cases h : t = j
  · subst h
    rw [if_pos rfl, getElem!_set_same _ _ _ (by simpa using hj)]
  · rw [if_neg h, getElem!_set_other _ _ _ _ h]
    by_cases h2 : t = i
    · subst h2
      rw [if_pos rfl, getElem!_set_same _ _ _ hi]
    · rw [if_neg h2, getElem!_set_other _ _ _ _ h2]
/-- Block b of w holds the row d; all other blocks are as they were in W. -/
structure Row (W w : World) (b : Nat) (d : Array Int) : Prop where
  cell : ∀ t, t < d.size → w.cell? ⟨b, t, none⟩ = some (.int .u32 (gt d t))
  fro : ∀ t, w.frozen? ⟨b, t, none⟩ = false
  but : But (· = b) W w
theorem Row.drew {W w : World} {b : Nat} {d : Array Int} (h : Row W w b d) : Row W w.drew b d := ⟨h.cell, h.fro, h.but.drew⟩
theorem Row.draws {W w : World} {b : Nat} {d : Array Int} (h : Row W w b d) : ∀ n, Row W (w.drewN n) b d
  | 0 => h
  | n + 1 => (h.draws n).drew
theorem Row.swap {W w : World} {b : Nat} {d : Array Int} (h : Row W w b d) (i j : Nat) (hi : i < d.size) (hj : j < d.size) :
    Row W ((w.setCell ⟨b, i, none⟩ (.int .u32 (gt d j))).setCell ⟨b, j, none⟩ (.int .u32 (gt d i))) b (swp d i j) := by
  refine ⟨fun t ht => ?_, fun t => by rw [World.frozen?_setCell, World.frozen?_setCell]; exact h.fro t, (h.but.setCell (a := ⟨b, i, none⟩) (fun _ => rfl) _).setCell (a := ⟨b, j, none⟩) (fun _ => rfl) _⟩
  rw [size_swp] at ht
  rw [gt_swp d i j t hi hj]
  by_cases e : t = j
  · subst e
    rw [if_pos rfl]
    by_cases e2 : t = i
    · subst e2
      exact World.cell?_setCell_same _ _ _ (World.cell?_setCell_same _ _ _ (h.cell t ht))
    · exact World.cell?_setCell_same _ _ _ ((World.cell?_setCell_other _ _ _ _ (by simp; try omega)).trans (h.cell t ht))
  · rw [if_neg e, World.cell?_setCell_other _ _ _ _ (by simp; try omega)]
    by_cases e2 : t = i
    · subst e2
      rw [if_pos rfl]
      exact World.cell?_setCell_same _ _ _ (h.cell t ht)
    · rw [if_neg e2, World.cell?_setCell_other _ _ _ _ (by simp; try omega)]
      exact h.cell t ht
theorem Row.go {W w w2 : World} {b : Nat} {d : Array Int} (h : Row W w b d) (k : Row w w2 b d) : Row W w2 b d := ⟨k.cell, k.fro, h.but.trans k.but (fun _ _ e => e)⟩
/-- what a call that sorts a part leaves -/
theorem Row.then_ {W w w2 : World} {b : Nat} {d d2 : Array Int} (h : Row W w b d) (k : Row w w2 b d2) : Row W w2 b d2 := ⟨k.cell, k.fro, h.but.trans k.but (fun _ _ e => e)⟩
theorem Row.self {W w : World} {b : Nat} {d : Array Int} (h : Row W w b d) : Row w w b d := ⟨h.cell, h.fro, But.refl _ _⟩
/-- less -/
def ls (d : Array Int) (i j : Nat) : Bool := decide (gt d i < gt d j)
theorem ls_eq (d : Array Int) (i j : Nat) : ltInt d[i]! d[j]! = ls d i j := rfl
/-! insertion sort -/
theorem insI_go (a j : Nat) (d : Array Int) (hj : a < j) (hl : ls d j (j - 1) = true) : insInner ltInt a j d = insInner ltInt a (j - 1) (swp d j (j - 1)) := by
  obtain ⟨k, rfl⟩ : ∃ k, j = k + 1 := ⟨j - 1, by omega⟩
  rw [insInner, ls_eq]
  simp only [Nat.add_sub_cancel] at hl ⊢
  rw [hl, if_pos (by simpa using hj)]
theorem insI_stop (a j : Nat) (d : Array Int) (h : j ≤ a ∨ ls d j (j - 1) = false) : insInner ltInt a j d = d := by
  cases j with
  | zero => rw [insInner]
  | succ k =>
    rw [insInner, ls_eq]
    simp only [Nat.add_sub_cancel] at h
    rw [if_neg]
    intro h2
    simp at h2
    rcases h with h | h
    · omega
    · rw [h] at h2; exact absurd h2.2 (by simp)
theorem insO_go (a b i : Nat) (d : Array Int) (h : i < b) : insOuter ltInt a b i d = insOuter ltInt a b (i + 1) (insInner ltInt a i d) := by
  rw [insOuter, if_pos h]
end Go.Proofs.Ytkmoefgoolhegaa
