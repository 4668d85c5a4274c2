/- What the document's own conditions (package salternref1) answer, for every input. -/
import Derived.Test.YtknpcohllghopaaRows
import Derived.Test.YtknpcohllghopaaPure1
import Derived.ProofKit
import Derived.OpenShut
import Derived.BigRegion
import Derived.Lib.Hide
import Derived.WalkLawsBesides
namespace Go.Proofs.Ytknpcohllghopaa
open Go.ChangeShapes Go.WideShapes Go.ChangeAt Go.RowKit

/-- The sixteen names; whether a condition holds. -/
def condN (c : Int) : ByteArray := if c < 0 ∨ 15 < c then ⟨#[]⟩ else [⟨#[111]⟩, ⟨#[110, 111]⟩, ⟨#[98]⟩, ⟨#[97, 101]⟩, ⟨#[101]⟩, ⟨#[110, 101]⟩, ⟨#[98, 101]⟩, ⟨#[97]⟩, ⟨#[115]⟩, ⟨#[110, 115]⟩, ⟨#[112]⟩, ⟨#[110, 112]⟩, ⟨#[108]⟩, ⟨#[103, 101]⟩, ⟨#[108, 101]⟩, ⟨#[103]⟩].getD c.toNat ⟨#[]⟩
def condP (k : Nat) (fc fp fz fs fo : Bool) : Bool := [fo, fc, fz, fc || fz, fs, fp, fs != fo, fz || (fs != fo)].getD k false
def condH (c : Int) (fc fp fz fs fo : Bool) : Bool := if c < 0 ∨ 15 < c then false else condP (c / 2).toNat fc fp fz fs fo != (c % 2 == 1)
theorem sixteen (c : Int) : c < 0 ∨ 15 < c ∨ c = 0 ∨ c = 1 ∨ c = 2 ∨ c = 3 ∨ c = 4 ∨ c = 5 ∨ c = 6 ∨ c = 7 ∨ c = 8 ∨ c = 9 ∨ c = 10 ∨ c = 11 ∨ c = 12 ∨ c = 13 ∨ c = 14 ∨ c = 15 := by omega
set_option maxRecDepth 100000 in
set_option maxHeartbeats 2000000 in
theorem rname_any (c : Int) (w : World) : Calls Try.prog 10 #[.int .i64 c] w fun e w' => e = .returned (.string (condN c)) ∧ Below w.heap.size w w' := by
  by_cases h : 0 ≤ c ∧ c ≤ 15
  · obtain ⟨j, rfl⟩ := Int.eq_ofNat_of_zero_le h.1
    have hj : j < 16 := by omega
    have hN := Lib.hid (show condN (j : Int) = [⟨#[111]⟩, ⟨#[110, 111]⟩, ⟨#[98]⟩, ⟨#[97, 101]⟩, ⟨#[101]⟩, ⟨#[110, 101]⟩, ⟨#[98, 101]⟩, ⟨#[97]⟩, ⟨#[115]⟩, ⟨#[110, 115]⟩, ⟨#[112]⟩, ⟨#[110, 112]⟩, ⟨#[108]⟩, ⟨#[103, 101]⟩, ⟨#[108, 101]⟩, ⟨#[103]⟩].getD j ⟨#[]⟩ by unfold condN; rw [if_neg (by omega), Int.toNat_natCast])
    clear h
    go_enter Try.func10, Try.ntmps10
    go_wp2
    go_ret
    refine ⟨?_, below_last (Below.refl _ _) _⟩
    rw [hN.out]
    clear hN
    obtain rfl | rfl | rfl | rfl | rfl | rfl | rfl | rfl | rfl | rfl | rfl | rfl | rfl | rfl | rfl | rfl : j = 0 ∨ j = 1 ∨ j = 2 ∨ j = 3 ∨ j = 4 ∨ j = 5 ∨ j = 6 ∨ j = 7 ∨ j = 8 ∨ j = 9 ∨ j = 10 ∨ j = 11 ∨ j = 12 ∨ j = 13 ∨ j = 14 ∨ j = 15 := by omega
    all_goals rfl
  · have hN := Lib.hid (show condN c = ⟨#[]⟩ by unfold condN; rw [if_pos (by omega)])
    have d : decide (c < 0) = true ∨ (decide (c < 0) = false ∧ decide (15 < c) = true) := by simp; omega
    clear h
    rcases d with d | ⟨d, d'⟩
    all_goals
      go_enter Try.func10, Try.ntmps10
      go_wp2
      go_ret
      exact ⟨by rw [hN.out]; rfl, Below.refl _ _⟩
set_option maxRecDepth 100000 in
set_option maxHeartbeats 4000000 in
theorem rholds_in (c : Int) (fc fp fz fs fo fd : Bool) (w : World) (c0 : 0 ≤ c) (c1 : c ≤ 15) : Calls Try.prog 8 #[.int .i64 c, .agg #[.bool fc, .bool fp, .bool fz, .bool fs, .bool fo, .bool fd]] w fun e w' => e = .returned (.bool (condP (c / 2).toNat fc fp fz fs fo != (c % 2 == 1))) ∧ Below w.heap.size w w' := by
  obtain ⟨j, hj⟩ : ∃ j : Nat, c / 2 = j := ⟨(c / 2).toNat, by omega⟩
  have hj8 : j < 8 := by omega
  have hj' := Lib.hid (show (c / 2).toNat = j by omega)
  have d0 : decide (c < 0) = false := by simp; omega
  have d1 : decide (15 < c) = false := by simp; omega
  rw [hj'.out]
  cases fc <;> cases fz
  · have hL : [Value.bool fo, Value.bool false, Value.bool false, Value.bool false, Value.bool fs, Value.bool fp, Value.bool (!(fs == fo)), Value.bool (!(fs == fo))][j] = Value.bool (condP j false fp false fs fo) := by
      obtain rfl | rfl | rfl | rfl | rfl | rfl | rfl | rfl : j = 0 ∨ j = 1 ∨ j = 2 ∨ j = 3 ∨ j = 4 ∨ j = 5 ∨ j = 6 ∨ j = 7 := by omega
      all_goals rfl
    generalize condP j false fp false fs fo = B at *
    go_enter Try.func8, Try.ntmps8
    go_wp2
    go_ret
    exact ⟨rfl, below_last (below_last (Below.refl _ _) _) _⟩
  · have hL : [Value.bool fo, Value.bool false, Value.bool true, Value.bool true, Value.bool fs, Value.bool fp, Value.bool (!(fs == fo)), Value.bool true][j] = Value.bool (condP j false fp true fs fo) := by
      obtain rfl | rfl | rfl | rfl | rfl | rfl | rfl | rfl : j = 0 ∨ j = 1 ∨ j = 2 ∨ j = 3 ∨ j = 4 ∨ j = 5 ∨ j = 6 ∨ j = 7 := by omega
      all_goals rfl
    generalize condP j false fp true fs fo = B at *
    go_enter Try.func8, Try.ntmps8
    go_wp2
    go_ret
    exact ⟨rfl, below_last (below_last (Below.refl _ _) _) _⟩
  · have hL : [Value.bool fo, Value.bool true, Value.bool false, Value.bool true, Value.bool fs, Value.bool fp, Value.bool (!(fs == fo)), Value.bool (!(fs == fo))][j] = Value.bool (condP j true fp false fs fo) := by
      obtain rfl | rfl | rfl | rfl | rfl | rfl | rfl | rfl : j = 0 ∨ j = 1 ∨ j = 2 ∨ j = 3 ∨ j = 4 ∨ j = 5 ∨ j = 6 ∨ j = 7 := by omega
      all_goals rfl
    generalize condP j true fp false fs fo = B at *
    go_enter Try.func8, Try.ntmps8
    go_wp2
    go_ret
    exact ⟨rfl, below_last (below_last (Below.refl _ _) _) _⟩
  · have hL : [Value.bool fo, Value.bool true, Value.bool true, Value.bool true, Value.bool fs, Value.bool fp, Value.bool (!(fs == fo)), Value.bool true][j] = Value.bool (condP j true fp true fs fo) := by
      obtain rfl | rfl | rfl | rfl | rfl | rfl | rfl | rfl : j = 0 ∨ j = 1 ∨ j = 2 ∨ j = 3 ∨ j = 4 ∨ j = 5 ∨ j = 6 ∨ j = 7 := by omega
      all_goals rfl
    generalize condP j true fp true fs fo = B at *
    go_enter Try.func8, Try.ntmps8
    go_wp2
    go_ret
    exact ⟨rfl, below_last (below_last (Below.refl _ _) _) _⟩
theorem condH_in (c : Int) (fc fp fz fs fo : Bool) (c0 : 0 ≤ c) (c1 : c ≤ 15) : condH c fc fp fz fs fo = (condP (c / 2).toNat fc fp fz fs fo != (c % 2 == 1)) := by
  unfold condH; rw [if_neg (by omega)]
theorem condH_out (c : Int) (fc fp fz fs fo : Bool) (h : c < 0 ∨ 15 < c) : condH c fc fp fz fs fo = false := by
  unfold condH; rw [if_pos h]
set_option maxRecDepth 100000 in
theorem rholds_any (c : Int) (fc fp fz fs fo fd : Bool) (w : World) : Calls Try.prog 8 #[.int .i64 c, .agg #[.bool fc, .bool fp, .bool fz, .bool fs, .bool fo, .bool fd]] w fun e w' => e = .returned (.bool (condH c fc fp fz fs fo)) ∧ Below w.heap.size w w' := by
  by_cases h : 0 ≤ c ∧ c ≤ 15
  · rw [condH_in c fc fp fz fs fo h.1 h.2]; exact rholds_in c fc fp fz fs fo fd w h.1 h.2
  · rw [condH_out c fc fp fz fs fo (by omega)]
    have d : decide (c < 0) = true ∨ (decide (c < 0) = false ∧ decide (15 < c) = true) := by simp; omega
    clear h
    rcases d with d | ⟨d, d'⟩
    all_goals
      go_enter Try.func8, Try.ntmps8
      go_wp2
      go_ret
      exact ⟨rfl, below_last (Below.refl _ _) _⟩
end Go.Proofs.Ytknpcohllghopaa
