/- The landed package modrm: its small functions. -/
import Derived.Test.YtblililckmbafaaNew9
import Derived.Laws.BitsAllLaws
import Derived.IntWalk
namespace Go.Proofs.Ytblililckmbafaa
open Go.ChangeShapes Go.WideShapes Go.ChangeAt Go.RowKit

theorem mfields_any (c : Int) (c0 : 0 ≤ c) (c1 : c < 256) (w : World) : Calls Try.prog 11 #[.int .u8 c] w fun e w' => e = .returned (.tuple #[.int .i64 (c / 64), .int .i64 (c / 8 % 8), .int .i64 (c % 8)]) ∧ w = w' := by
  have a1 := and7 (c / 8) (by omega) (by omega)
  have a2 := and7 c c0 c1
  go_enter Try.func11, Try.ntmps11
  go_wp2
  go_returns
  exact ⟨rfl, rfl⟩
theorem mmemory_any (b : Int) (w : World) : Calls Try.prog 12 #[.int .i64 b] w fun e w' => e = .returned (.agg #[.int .i64 3, .int .i64 0, .int .i64 b, .int .i64 (-1), .int .i64 1, .int .u32 0]) ∧ w' = w.alloc (.cells #[.int .i64 3, .int .i64 0, .int .i64 b, .int .i64 (-1), .int .i64 1, .int .u32 0] 28) := by
  go_enter Try.func12, Try.ntmps12
  go_wp2
  go_returns
  exact ⟨rfl, rfl⟩
theorem mregister_any (r : Int) (w : World) : Calls Try.prog 13 #[.int .i64 r] w fun e w' => e = .returned (.agg #[.int .i64 1, .int .i64 r, .int .i64 (-1), .int .i64 (-1), .int .i64 1, .int .u32 0]) ∧ w' = w.alloc (.cells #[.int .i64 1, .int .i64 r, .int .i64 (-1), .int .i64 (-1), .int .i64 1, .int .u32 0] 28) := by
  go_enter Try.func13, Try.ntmps13
  go_wp2
  go_returns
  exact ⟨rfl, rfl⟩
theorem mnumbered_yes (r : Int) (h0 : 0 ≤ r) (h7 : r ≤ 7) (w : World) : Calls Try.prog 20 #[.int .i64 r] w fun e w' => e = .returned (.bool true) ∧ w = w' := by
  go_enter Try.func20, Try.ntmps20
  go_wp2
  go_ret
  simp
theorem mnumbered_any (r : Int) (w : World) : Calls Try.prog 20 #[.int .i64 r] w fun e w' => e = .returned (.bool (decide (0 ≤ r ∧ r ≤ 7))) ∧ w = w' := by
  have H := Lib.hid (rfl : (decide (0 ≤ r ∧ r ≤ 7)) = decide (0 ≤ r ∧ r ≤ 7))
  by_cases h0 : 0 ≤ r
  · by_cases h7 : r ≤ 7
    · rw [show decide (0 ≤ r ∧ r ≤ 7) = true by simp [h0, h7]]
      exact mnumbered_yes r h0 h7 w
    · rw [show decide (0 ≤ r ∧ r ≤ 7) = false by simp [h7]]
      have e0 : decide (0 ≤ r) = true := by simpa using h0
      have e7 : decide (r ≤ 7) = false := by simpa using h7
      go_enter Try.func20, Try.ntmps20
      go_wp2
      go_ret
      simp
  · rw [show decide (0 ≤ r ∧ r ≤ 7) = false by simp [h0]]
    have e0 : decide (0 ≤ r) = false := by simpa using h0
    go_enter Try.func20, Try.ntmps20
    go_wp2
    go_ret
    simp
theorem madded_any (md base : Int) (m0 : 0 ≤ md) (m2 : md ≤ 2) (w : World) : Calls Try.prog 23 #[.int .i64 md, .int .i64 base] w fun e w' => e = .returned (.int .i64 (more9 md base)) ∧ w = w' := by
  have hc : md = 0 ∨ md = 1 ∨ md = 2 := by omega
  rcases hc with rfl | rfl | rfl
  · by_cases h5 : base = 5
    · subst h5
      go_enter Try.func23, Try.ntmps23
      go_wp2
      go_ret
      exact ⟨rfl, rfl⟩
    · have hV := Lib.hid (show more9 0 base = 0 by unfold more9; simp [h5])
      have e5 : (base == 5) = false := by simpa using h5
      clear h5
      go_enter Try.func23, Try.ntmps23
      go_wp2
      go_ret
      exact ⟨by rw [hV.out]; rfl, rfl⟩
  · go_enter Try.func23, Try.ntmps23
    go_wp2
    go_ret
    exact ⟨rfl, rfl⟩
  · go_enter Try.func23, Try.ntmps23
    go_wp2
    go_ret
    exact ⟨rfl, rfl⟩
theorem mpower_any (s : Int) (h : s = 1 ∨ s = 2 ∨ s = 4 ∨ s = 8) (w : World) : Calls Try.prog 27 #[.int .i64 s] w fun e w' => e = .returned (.int .i64 (log9 s)) ∧ w = w' := by
  rcases h with rfl | rfl | rfl | rfl
  all_goals
    go_enter Try.func27, Try.ntmps27
    go_wp2
    go_ret
    exact ⟨rfl, rfl⟩
theorem i64_or_nat (a b : Nat) (ha : a < 9223372036854775808) (hb : b < 9223372036854775808) : bits .or .i64 (a : Int) (b : Int) = ((a ||| b : Nat) : Int) := by
  have hx : a ||| b < 2 ^ 63 := Nat.or_lt_two_pow (by omega) (by omega)
  show IntKind.i64.wrap ((BitVec.ofInt 64 (a : Int) ||| BitVec.ofInt 64 (b : Int)).toNat : Int) = _
  rw [BitVec.toNat_or, ofInt_u64 a (by omega), ofInt_u64 b (by omega)]
  exact IntWalk.i64_in _ (by omega)
theorem or_add_i64 (k : Nat) (a b : Int) (a0 : 0 ≤ a) (a1 : a < ((2 ^ k : Nat) : Int)) (b0 : 0 ≤ b) (h : a + b * ((2 ^ k : Nat) : Int) < 9223372036854775808) : bits .or .i64 (b * ((2 ^ k : Nat) : Int)) a = a + b * ((2 ^ k : Nat) : Int) := by
  obtain ⟨x, rfl⟩ : ∃ x : Nat, a = (x : Int) := ⟨a.toNat, by omega⟩
  obtain ⟨y, rfl⟩ : ∃ y : Nat, b = (y : Int) := ⟨b.toNat, by omega⟩
  have e : (y : Int) * ((2 ^ k : Nat) : Int) = ((y * 2 ^ k : Nat) : Int) := by push_cast; rfl
  rw [e] at h ⊢
  have hx : x < 2 ^ k := by omega
  rw [i64_or_nat (y * 2 ^ k) x (by omega) (by omega)]
  have := Nat.shiftLeft_add_eq_or_of_lt hx y
  rw [Nat.shiftLeft_eq] at this
  rw [← this]
  omega
theorem mjoined_any (a b c : Int) (a0 : 0 ≤ a) (a1 : a < 4) (b0 : 0 ≤ b) (b1 : b < 8) (c0 : 0 ≤ c) (c1 : c < 8) (w : World) : Calls Try.prog 21 #[.int .i64 a, .int .i64 b, .int .i64 c] w fun e w' => e = .returned (.int .u8 (a * 64 + b * 8 + c)) ∧ w = w' := by
  have o1 : bits .or .i64 (a * 64) (b * 8) = b * 8 + a * 64 := or_add_i64 6 (b * 8) a (by omega) (by show b * 8 < (64 : Int); omega) a0 (by show b * 8 + a * 64 < _; omega)
  have o2 : bits .or .i64 (b * 8 + a * 64) c = c + (b + a * 8) * 8 := by
    rw [show b * 8 + a * 64 = (b + a * 8) * 8 by omega]
    exact or_add_i64 3 c (b + a * 8) c0 (by show c < (8 : Int); omega) (by omega) (by show c + (b + a * 8) * 8 < _; omega)
  have hV := Lib.hid (show c + (b + a * 8) * 8 = a * 64 + b * 8 + c by omega)
  go_enter Try.func21, Try.ntmps21
  go_wp2
  go_ret
  exact ⟨by rw [← hV.out]; rfl, rfl⟩
end Go.Proofs.Ytblililckmbafaa
