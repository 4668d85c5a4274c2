/- Words of two bytes within a word of eight (numbers only). -/
import Derived.Test.YtplghmkicdpbfaaBits13
namespace Go.Proofs.Ytplghmkicdpbfaa
open Go

theorem or_shift (q m k : Nat) (h : m < 2 ^ k) : (q * 2 ^ k) ||| m = q * 2 ^ k + m := by
  rw [← Nat.shiftLeft_eq, ← Nat.shiftLeft_add_eq_or_of_lt h]
theorem not_low (n : Nat) (hn : n < 4294967296) : n &&& 18446744073709486080 = n / 65536 * 65536 := by
  rw [show (18446744073709486080 : Nat) = (2 ^ 48 - 1) <<< 16 from rfl, show n / 65536 * 65536 = (n / 65536) <<< 16 by rw [Nat.shiftLeft_eq]]
  apply Nat.eq_of_testBit_eq
  intro i
  rw [Nat.testBit_and, Nat.testBit_shiftLeft, Nat.testBit_shiftLeft, Nat.testBit_two_pow_sub_one, show n / 65536 = n >>> 16 by rw [Nat.shiftRight_eq_div_pow], Nat.testBit_shiftRight]
  by_cases h16 : 16 ≤ i
  · rw [show 16 + (i - 16) = i by omega]
    by_cases h32 : i < 32
    · simp [h16, show i - 16 < 48 by omega]
    · simp [bit_high hn h32]
  · simp [h16]
theorem and_low (v : Int) (h0 : 0 ≤ v) (h1 : v < 18446744073709551616) : bits .and .u64 v 65535 = v % 65536 := by
  rw [u64_and v 65535 h0 h1 (by decide) (by decide)]
  have h : v.toNat &&& (65535 : Int).toNat = v.toNat % 65536 := Nat.and_two_pow_sub_one_eq_mod v.toNat 16
  rw [h]
  omega
theorem or_bytes (a b : Int) (a0 : 0 ≤ a) (a1 : a < 256) (b0 : 0 ≤ b) (b1 : b < 256) : bits .or .u64 (b * 256) a = b * 256 + a := by
  obtain ⟨n, rfl⟩ := Int.eq_ofNat_of_zero_le a0
  obtain ⟨m, rfl⟩ := Int.eq_ofNat_of_zero_le b0
  rw [show (m : Int) * 256 = ((m * 256 : Nat) : Int) by omega, u64_or_nat _ _ (by omega) (by omega), or_shift m n 8 (by omega)]
  omega
theorem put_word (R v : Int) (r0 : 0 ≤ R) (r1 : R < 4294967296) (v0 : 0 ≤ v) (v1 : v < 65536) : bits .or .u64 (bits .andNot .u64 R 65535) v = R / 65536 * 65536 + v := by
  obtain ⟨n, rfl⟩ := Int.eq_ofNat_of_zero_le r0
  obtain ⟨m, rfl⟩ := Int.eq_ofNat_of_zero_le v0
  rw [u64_andNot n 65535 r0 (by omega) (by decide) (by decide), Int.toNat_natCast, show (18446744073709551615 - Int.toNat 65535) = 18446744073709486080 from rfl, not_low n (by omega)]
  rw [u64_or_nat _ _ (by omega) (by omega), or_shift (n / 65536) m 16 (by omega)]
  omega
end Go.Proofs.Ytplghmkicdpbfaa
