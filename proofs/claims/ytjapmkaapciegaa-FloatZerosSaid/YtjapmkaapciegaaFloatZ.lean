/- Literals of noughts and infinities. -/
import Derived.Test.YtjapmkaapciegaaKnown4
namespace Go.Proofs.Ytjapmkaapciegaa
open Go.ChangeShapes Go.WideShapes Go.ChangeAt Go.RowKit

theorem fdo_lit (op : Int) (a b c : Nat) (h1 : a < 18446744073709551616) (k1 : b < 18446744073709551616) (h : fltN op a b = c) (w : World) : Calls Try.prog 13 #[.int .i64 op, .int .u64 (a : Int), .int .u64 (b : Int)] w fun e w' => e = .returned (.int .u64 (c : Int)) ∧ Below w.heap.size w w' := by
  have g := fdo_any op a b h1 k1 w
  rw [h] at g
  exact g
theorem z_zero : Ieee.double.read 0 = .number false 0 (-1074) := by rw [read_def]; rfl
theorem z_nzero : Ieee.double.read 9223372036854775808 = .number true 0 (-1074) := by rw [read_def]; rfl
theorem z_inf : Ieee.double.read 9218868437227405312 = .infinity false := by rw [read_def]; rfl
theorem z_ninf : Ieee.double.read 18442240474082181120 = .infinity true := by rw [read_def]; rfl
theorem fz_sign (b : Bool) (w : World) : Calls Try.prog 25 #[.bool b] w fun e w' => e = .returned (.int .u64 (if b then 9223372036854775808 else 0)) ∧ w = w' := by
  cases b
  all_goals
    go_enter Try.func25, Try.ntmps25
    go_wp2
    go_ret
    exact ⟨rfl, rfl⟩
theorem fz_f (w : World) : Calls Try.prog 25 #[.bool false] w fun e w' => e = .returned (.int .u64 0) ∧ w = w' := fz_sign false w
theorem fz_t (w : World) : Calls Try.prog 25 #[.bool true] w fun e w' => e = .returned (.int .u64 9223372036854775808) ∧ w = w' := fz_sign true w
theorem fz_x00 : bits .xor .u64 0 0 = 0 := by decide +kernel
theorem fz_x01 : bits .xor .u64 0 9223372036854775808 = 9223372036854775808 := by decide +kernel
theorem fz_x10 : bits .xor .u64 9223372036854775808 0 = 9223372036854775808 := by decide +kernel
theorem fz_x11 : bits .xor .u64 9223372036854775808 9223372036854775808 = 0 := by decide +kernel
theorem fz_xi0 : bits .xor .u64 9218868437227405312 0 = 9218868437227405312 := by decide +kernel
theorem fz_xi1 : bits .xor .u64 9218868437227405312 9223372036854775808 = 18442240474082181120 := by decide +kernel
theorem fz_xn0 : bits .xor .u64 18442240474082181120 0 = 18442240474082181120 := by decide +kernel
theorem fz_xn1 : bits .xor .u64 18442240474082181120 9223372036854775808 = 9218868437227405312 := by decide +kernel
theorem fz_o0 : bits .or .u64 0 9218868437227405312 = 9218868437227405312 := by decide +kernel
theorem fz_o1 : bits .or .u64 9223372036854775808 9218868437227405312 = 18442240474082181120 := by decide +kernel
theorem fz_abs (a : Nat) (a1 : a < 18446744073709551616) : bits .andNot .u64 (a : Int) 9223372036854775808 = ((a % 9223372036854775808 : Nat) : Int) := by
  rw [show (9223372036854775808 : Int) = ((9223372036854775808 : Nat) : Int) from rfl, u64_andNot_nat a 9223372036854775808 a1 (by decide)]
  congr 1
  exact Nat.and_two_pow_sub_one_eq_mod a 63
theorem fz_bit (a : Nat) (a1 : a < 18446744073709551616) : bits .and .u64 (a : Int) 9223372036854775808 = if (a / 9223372036854775808 % 2 == 1) then 9223372036854775808 else 0 := by
  rw [show (9223372036854775808 : Int) = ((9223372036854775808 : Nat) : Int) from rfl, u64_and_nat a 9223372036854775808 a1 (by decide), show (9223372036854775808 : Nat) = 2 ^ 63 from rfl, nat_bit]
  have h2 : a / 2 ^ 63 % 2 = 0 ∨ a / 2 ^ 63 % 2 = 1 := by omega
  rcases h2 with h2 | h2 <;> rw [h2] <;> simp
end Go.Proofs.Ytjapmkaapciegaa
