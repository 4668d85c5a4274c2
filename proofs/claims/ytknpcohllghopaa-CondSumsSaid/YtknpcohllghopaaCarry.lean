/- A call that makes memory alone leaves what lies below as it was: in the form that a region held by its cells asks. -/
import Derived.Test.YtknpcohllghopaaRows
import Derived.Test.YtknpcohllghopaaPure1
import Derived.ProofKit
namespace Go.Proofs.Ytknpcohllghopaa
open Go.ChangeShapes Go.WideShapes Go.ChangeAt Go.RowKit

theorem carry6 {f : FuncId} {args : Array Value} {v x0 x1 x2 x3 x4 x5 : Value} {B1 b : Nat} {W1 : World} (h : ∀ w, Calls Try.prog f args w fun e w' => e = .returned v ∧ Below w.heap.size w w') (w : World)
    (hw : Below B1 W1 w ∧ B1 ≤ w.heap.size ∧ w.cell? ⟨b, 0, none⟩ = some x0 ∧ w.cell? ⟨b, 1, none⟩ = some x1 ∧ w.cell? ⟨b, 2, none⟩ = some x2 ∧ w.cell? ⟨b, 3, none⟩ = some x3 ∧ w.cell? ⟨b, 4, none⟩ = some x4 ∧ w.cell? ⟨b, 5, none⟩ = some x5) :
    Calls Try.prog f args w fun e w' => e = .returned v ∧ (Below B1 W1 w' ∧ B1 ≤ w'.heap.size ∧ w'.cell? ⟨b, 0, none⟩ = some x0 ∧ w'.cell? ⟨b, 1, none⟩ = some x1 ∧ w'.cell? ⟨b, 2, none⟩ = some x2 ∧ w'.cell? ⟨b, 3, none⟩ = some x3 ∧ w'.cell? ⟨b, 4, none⟩ = some x4 ∧ w'.cell? ⟨b, 5, none⟩ = some x5) := by
  obtain ⟨h1, k1, c0, c1, c2, c3, c4, c5⟩ := hw
  exact (h w).mono fun e w' ⟨he, hb⟩ => ⟨he, h1.trans (hb.mono k1), Nat.le_trans k1 hb.size, cell_call hb c0, cell_call hb c1, cell_call hb c2, cell_call hb c3, cell_call hb c4, cell_call hb c5⟩
theorem carry7 {f : FuncId} {args : Array Value} {v x0 x1 x2 x3 x4 x5 x6 : Value} {B1 B2 b : Nat} {p : Addr} {W1 W2 : World} (h : ∀ w, Calls Try.prog f args w fun e w' => e = .returned v ∧ Below w.heap.size w w') (w : World)
    (hw : Below B1 W1 w ∧ B1 ≤ w.heap.size ∧ Below B2 W2 w ∧ B2 ≤ w.heap.size ∧ w.cell? ⟨b, 0, none⟩ = some x0 ∧ w.cell? ⟨b, 1, none⟩ = some x1 ∧ w.cell? ⟨b, 2, none⟩ = some x2 ∧ w.cell? ⟨b, 3, none⟩ = some x3 ∧ w.cell? ⟨b, 4, none⟩ = some x4 ∧ w.cell? ⟨b, 5, none⟩ = some x5 ∧ w.cell? p = some x6) :
    Calls Try.prog f args w fun e w' => e = .returned v ∧ (Below B1 W1 w' ∧ B1 ≤ w'.heap.size ∧ Below B2 W2 w' ∧ B2 ≤ w'.heap.size ∧ w'.cell? ⟨b, 0, none⟩ = some x0 ∧ w'.cell? ⟨b, 1, none⟩ = some x1 ∧ w'.cell? ⟨b, 2, none⟩ = some x2 ∧ w'.cell? ⟨b, 3, none⟩ = some x3 ∧ w'.cell? ⟨b, 4, none⟩ = some x4 ∧ w'.cell? ⟨b, 5, none⟩ = some x5 ∧ w'.cell? p = some x6) := by
  obtain ⟨h1, k1, h2, k2, c0, c1, c2, c3, c4, c5, c6⟩ := hw
  exact (h w).mono fun e w' ⟨he, hb⟩ => ⟨he, h1.trans (hb.mono k1), Nat.le_trans k1 hb.size, h2.trans (hb.mono k2), Nat.le_trans k2 hb.size, cell_call hb c0, cell_call hb c1, cell_call hb c2, cell_call hb c3, cell_call hb c4, cell_call hb c5, cell_call hb c6⟩
end Go.Proofs.Ytknpcohllghopaa
