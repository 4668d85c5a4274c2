/- The statements' own first look at operands. -/
import Derived.Test.YtblililckmbafaaModrm
import Derived.BigQuiet
import Derived.Deep.QuietTactic
namespace Go.Proofs.Ytblililckmbafaa
open Go.ChangeShapes Go.WideShapes Go.ChangeAt Go.RowKit

set_option maxRecDepth 100000 in
set_option maxHeartbeats 4000000 in
theorem known9_any (w : World) : Calls Try.prog 5 #[] w fun e w' => e = .returned (.bool true) ∧ Below w.heap.size w w' := by
  have hV := Lib.hid (rmV_some (show rmF 2 (lst [4, 36]) = some (⟨3, 0, 4, -1, 1, 0⟩, 0, 2) by decide +kernel))
  go_enter Try.func5, Try.ntmps5
  go_wp2_with fail
  refine (mrread_any _ 2 (lst [4, 36]) (lst_ok (by decide)) _ (slc_new w _ _ 2 2 _ (Nat.le_refl _) (fun i hi => ?_)) (by decide)).mono ?_
  · match i, hi with
    | 0, _ => rfl
    | 1, _ => rfl
  rintro e w1 ⟨rfl, B1⟩
  rw [hV.out]
  have L1 := Lib.hid (below_step (below_last (Below.refl _ w) _) B1)
  clear B1
  go_wp2_with fail
  refine (mrput_any 0 ⟨3, 0, 4, -1, 1, 0⟩ (by decide) (by decide) _).mono ?_
  rintro e w2 ⟨v, rfl, hs, B2⟩
  rw [show (if putOk 0 ⟨3, 0, 4, -1, 1, 0⟩ then (putF 0 ⟨3, 0, 4, -1, 1, 0⟩).length else 0) = 2 from by decide +kernel] at hs
  rw [show (if putOk 0 ⟨3, 0, 4, -1, 1, 0⟩ then (0 : Int) else 22) = 0 from by decide +kernel]
  obtain ⟨y, cap, rfl⟩ := hs.len
  have L2 := Lib.hid (below_step (below_last L1.out _) B2)
  have q1 := B2.cell (p := ⟨w1.heap.size, 0, none⟩) (by simp)
  have q2 := B2.cell (p := ⟨w1.heap.size, 1, none⟩) (by simp)
  have q3 := B2.cell (p := ⟨w1.heap.size, 2, none⟩) (by simp)
  have q4 := B2.cell (p := ⟨w1.heap.size, 3, none⟩) (by simp)
  have q5 := B2.cell (p := ⟨w1.heap.size, 4, none⟩) (by simp)
  have q6 := B2.cell (p := ⟨w1.heap.size, 5, none⟩) (by simp)
  simp [go_sem] at q1 q2 q3 q4 q5 q6
  have hstr := hs.str (fun i hi => by
    match i, hi with
    | 0, _ => decide
    | 1, _ => decide)
  rw [show strOf 2 (fun i => (putF 0 ⟨3, 0, 4, -1, 1, 0⟩).getD i 0) = ⟨#[4, 36]⟩ from by decide +kernel] at hstr
  have hri := mrright_any ⟨3, 0, 4, -1, 1, 0⟩
  rw [show decide (memOk ⟨3, 0, 4, -1, 1, 0⟩) = true from by decide +kernel] at hri
  have HR := Lib.hid hri
  clear L1 B2 hs hri
  go_wp2_with fail
  refine (HR.out _).mono ?_
  rintro e w3 ⟨rfl, B3⟩
  go_wp2_with fail
  go_ret
  exact ⟨rfl, below_step L2.out B3⟩
end Go.Proofs.Ytblililckmbafaa
