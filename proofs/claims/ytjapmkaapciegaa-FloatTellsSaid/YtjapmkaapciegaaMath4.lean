/- What the library's own few calls on doubles answer: bits are doubles, and back; a root; a sum, difference, product, quotient that isn't valid draws a NaN. -/
import Derived.Test.YtjapmkaapciegaaRows
import Derived.Test.YtjapmkaapciegaaPure4
import Derived.ProofKit
import Derived.OpenShut
import Derived.BigRegion
import Derived.Lib.Hide
import Derived.WalkLawsBesides
import Derived.Laws.Externs
import Derived.Laws.FloatArith
namespace Go.Proofs.Ytjapmkaapciegaa
open Go.ChangeShapes Go.WideShapes Go.ChangeAt Go.RowKit

theorem m_frombits (n : Int) (w : World) : (callFunc 30 #[.int .u64 n]).run Try.prog w = .ok (.value (.float .f64 n.toNat)) w := by
  rw [run_callFunc_extern Try.func30 (by kernel_rfl) (by kernel_rfl) (by kernel_rfl) (e := Extern.MathFloatBits.float64frombits) (by kernel_rfl)]
  rfl
theorem m_bits (b : Nat) (w : World) : (callFunc 32 #[.float .f64 b]).run Try.prog w = .ok (.value (.int .u64 (b : Int))) w := by
  rw [run_callFunc_extern Try.func32 (by kernel_rfl) (by kernel_rfl) (by kernel_rfl) (e := Extern.MathFloatBits.float64bits) (by kernel_rfl)]
  rfl
/-- Bits of a NaN that the model draws. -/
def drawnNaN (t : Nat) : Nat := (t % 2) * 2 ^ 63 + 0x7ff0000000000000 + 1 + (t / 2) % (2 ^ 52 - 1)
theorem drawn_nan (t : Nat) : nanB (drawnNaN t) = true := by
  unfold nanB drawnNaN
  rw [decide_eq_true_eq]
  have h2 : t / 2 % (2 ^ 52 - 1) < 2 ^ 52 - 1 := Nat.mod_lt _ (by decide)
  generalize t / 2 % (2 ^ 52 - 1) = u at *
  have h1 : t % 2 = 0 ∨ t % 2 = 1 := by omega
  rcases h1 with h1 | h1 <;> rw [h1] <;> omega
theorem drawn_lt (t : Nat) : drawnNaN t < 18446744073709551616 := by
  unfold drawnNaN; omega
theorem m_arith_none (op : BinOp) (t : TypeId) (x y : Nat) (hop : op = .add ∨ op = .sub ∨ op = .mul ∨ op = .quo) (h : floatBits op .f64 x y = none) (w : World) :
    ∃ b : Nat, nanB b = true ∧ b < 18446744073709551616 ∧ (binOp op t (.float .f64 x) (.float .f64 y)).run Try.prog w = .ok (.float .f64 b) w.drew := by
  refine ⟨_, drawn_nan (w.tape w.drawn (.nanBits .f64 x y)), drawn_lt _, ?_⟩
  unfold floatBits at h
  rcases hop with rfl | rfl | rfl | rfl
  all_goals
    simp only at h
    simp [binOp, Op.floatArith, h, choose]
    rfl
theorem sqrt_entry (x : Nat) : Extern.MathSqrt.sqrt #[.float .f64 x] = (match Ieee.double.sqrt x with | some r => pure (.float .f64 r) | none => do pure (.float .f64 (← choose (.nanBits .f64 x x)))) := rfl
theorem m_sqrt_some (x r : Nat) (h : Ieee.double.sqrt x = some r) (w : World) : (callFunc 33 #[.float .f64 x]).run Try.prog w = .ok (.value (.float .f64 r)) w := by
  rw [run_callFunc_extern Try.func33 (by kernel_rfl) (by kernel_rfl) (by kernel_rfl) (e := Extern.MathSqrt.sqrt) (by kernel_rfl)]
  rw [sqrt_entry, h]
  rfl
theorem m_sqrt_none (x : Nat) (h : Ieee.double.sqrt x = none) (w : World) : ∃ b : Nat, nanB b = true ∧ b < 18446744073709551616 ∧ (callFunc 33 #[.float .f64 x]).run Try.prog w = .ok (.value (.float .f64 b)) w.drew := by
  refine ⟨_, drawn_nan (w.tape w.drawn (.nanBits .f64 x x)), drawn_lt _, ?_⟩
  rw [run_callFunc_extern Try.func33 (by kernel_rfl) (by kernel_rfl) (by kernel_rfl) (e := Extern.MathSqrt.sqrt) (by kernel_rfl)]
  rw [sqrt_entry, h]
  rfl
attribute [local go_sem] m_frombits m_bits m_sqrt_some
theorem msqrt_some (x r : Nat) (h : Ieee.double.sqrt x = some r) (w : World) : Calls Try.prog 28 #[.float .f64 x] w fun e w' => e = .returned (.float .f64 r) ∧ w = w' := by
  have hx := m_sqrt_some x r h
  go_enter Try.func28, Try.ntmps28
  go_wp2
  go_ret
  exact ⟨rfl, rfl⟩
theorem msqrt_none (x : Nat) (h : Ieee.double.sqrt x = none) (w : World) : Calls Try.prog 28 #[.float .f64 x] w fun e w' => ∃ b : Nat, nanB b = true ∧ b < 18446744073709551616 ∧ e = .returned (.float .f64 b) ∧ w' = w.drew := by
  obtain ⟨b, hb, hl, hx⟩ := m_sqrt_none x h w
  go_enter Try.func28, Try.ntmps28
  go_wp2
  go_ret
  exact ⟨b, hb, hl, rfl, rfl⟩
end Go.Proofs.Ytjapmkaapciegaa
