/- The document's own reading of operands (package salternref9), the small ones. -/
import Derived.Test.YtbbegbaaefgikaaPure9
import Derived.Test.YtbbegbaaefgikaaSlc
import Derived.Laws.MathBits
import Derived.Handy
import Derived.BigQuiet
import Derived.Deep.QuietTactic
import Derived.Deep.DeepCutAuto
import Derived.Deep.CutBlock
namespace Go.Proofs.Ytbbegbaaefgikaa
set_option maxRecDepth 100000
open Go.ChangeShapes Go.WideShapes Go.ChangeAt Go.RowKit

/-- an operand as a value -/
def opV (o : Opd) : Value := .agg #[.int .i64 o.kind, .int .i64 o.reg, .int .i64 o.base, .int .i64 o.index, .int .i64 o.scale, .int .u32 o.disp]
theorem and7 (z : Int) (h0 : 0 ≤ z) (h1 : z < 256) : bits .and .u8 z 7 = z % 8 := by
  obtain ⟨k, rfl⟩ : ∃ k : Nat, z = (k : Int) := ⟨z.toNat, by omega⟩
  have := u8_and_nat k 7 (by omega) (by omega)
  rw [show ((7 : Nat) : Int) = 7 from rfl] at this
  rw [this, show k &&& 7 = k % 8 from Nat.and_two_pow_sub_one_eq_mod k 3]
  rfl
/-- the cells of an operand -/
def opC (o : Opd) : Array Value := #[.int .i64 o.kind, .int .i64 o.reg, .int .i64 o.base, .int .i64 o.index, .int .i64 o.scale, .int .u32 o.disp]
theorem or_add (k : Nat) (a b : Int) (a0 : 0 ≤ a) (a1 : a < ((2 ^ k : Nat) : Int)) (b0 : 0 ≤ b) (h : a + b * ((2 ^ k : Nat) : Int) < 4294967296) : bits .or .u32 a (b * ((2 ^ k : Nat) : Int)) = a + b * ((2 ^ k : Nat) : Int) := by
  obtain ⟨x, rfl⟩ : ∃ x : Nat, a = (x : Int) := ⟨a.toNat, by omega⟩
  obtain ⟨y, rfl⟩ : ∃ y : Nat, b = (y : Int) := ⟨b.toNat, by omega⟩
  have e : (y : Int) * ((2 ^ k : Nat) : Int) = ((y * 2 ^ k : Nat) : Int) := by push_cast; rfl
  rw [e] at h ⊢
  have hx : x < 2 ^ k := by omega
  rw [u32_or_nat x (y * 2 ^ k) (by omega) (by omega)]
  have := Nat.shiftLeft_add_eq_or_of_lt hx y
  rw [Nat.shiftLeft_eq] at this
  rw [Nat.or_comm, ← this]
  omega
end Go.Proofs.Ytbbegbaaefgikaa
