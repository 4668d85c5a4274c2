/- Bytes of a word put anew, bit by bit (numbers only). -/
import Derived.Laws.BitsAllLaws
namespace Go.Proofs.Ytbbegbaaefgikaa
set_option maxRecDepth 100000
open Go

theorem bit_high {n i : Nat} (hn : n < 4294967296) (hi : ¬ i < 32) : n.testBit i = false :=
  Nat.testBit_lt_two_pow (Nat.lt_of_lt_of_le (show n < 2 ^ 32 from hn) (Nat.pow_le_pow_right (by omega) (by omega)))
theorem put_low (n m : Nat) (hn : n < 4294967296) (hm : m < 256) : (n &&& 4294967040) ||| m = n / 256 * 256 + m := by
  have e1 : n / 256 * 256 + m = (n / 256) <<< 8 ||| m := by
    rw [← Nat.shiftLeft_add_eq_or_of_lt (show m < 2 ^ 8 from hm), Nat.shiftLeft_eq]
  rw [e1, show (4294967040 : Nat) = (2 ^ 24 - 1) <<< 8 from rfl]
  apply Nat.eq_of_testBit_eq
  intro i
  rw [Nat.testBit_or, Nat.testBit_or, Nat.testBit_and, Nat.testBit_shiftLeft, Nat.testBit_shiftLeft, Nat.testBit_two_pow_sub_one, show n / 256 = n >>> 8 by rw [Nat.shiftRight_eq_div_pow], Nat.testBit_shiftRight]
  by_cases h8 : 8 ≤ i
  · rw [show 8 + (i - 8) = i by omega]
    by_cases h32 : i < 32
    · simp [h8, show i - 8 < 24 by omega]
    · simp [bit_high hn h32]
  · simp [h8]
theorem put_high (n m : Nat) (hn : n < 4294967296) (hm : m < 256) : (n &&& 4294902015) ||| (m * 256) = n / 65536 * 65536 + m * 256 + n % 256 := by
  have e1 : n / 65536 * 65536 + m * 256 + n % 256 = (n / 65536) <<< 16 ||| (m <<< 8 ||| n % 2 ^ 8) := by
    have h1 : m <<< 8 ||| n % 2 ^ 8 = m * 256 + n % 256 := by
      rw [← Nat.shiftLeft_add_eq_or_of_lt (Nat.mod_lt _ (by decide)), Nat.shiftLeft_eq]
    rw [h1, ← Nat.shiftLeft_add_eq_or_of_lt (show m * 256 + n % 256 < 2 ^ 16 by omega), Nat.shiftLeft_eq]
    omega
  rw [e1, show (4294902015 : Nat) = (2 ^ 16 - 1) <<< 16 ||| (2 ^ 8 - 1) from rfl, show m * 256 = m <<< 8 by rw [Nat.shiftLeft_eq]]
  apply Nat.eq_of_testBit_eq
  intro i
  simp only [Nat.testBit_or, Nat.testBit_and, Nat.testBit_shiftLeft, Nat.testBit_two_pow_sub_one, Nat.testBit_mod_two_pow, show n / 65536 = n >>> 16 by rw [Nat.shiftRight_eq_div_pow], Nat.testBit_shiftRight]
  by_cases h16 : 16 ≤ i
  · rw [show 16 + (i - 16) = i by omega]
    have h8 : ¬ i < 8 := by omega
    by_cases h32 : i < 32
    · simp [h16, h8, show i - 16 < 16 by omega]
    · simp [h16, h8, bit_high hn h32]
  · by_cases h8 : i < 8
    · simp [h16, h8, show ¬ 8 ≤ i by omega]
    · simp [h16, h8]
theorem bits_put0 (R x : Int) (h0 : 0 ≤ R) (h1 : R < 4294967296) (x0 : 0 ≤ x) (x1 : x < 256) : bits .or .u32 (bits .andNot .u32 R 255) x = R / 256 * 256 + x := by
  obtain ⟨n, rfl⟩ := Int.eq_ofNat_of_zero_le h0
  obtain ⟨m, rfl⟩ := Int.eq_ofNat_of_zero_le x0
  rw [u32_andNot n 255 h0 h1 (by decide) (by decide), Int.toNat_natCast, show (4294967295 - Int.toNat 255) = 4294967040 from rfl]
  have hle : n &&& 4294967040 ≤ n := Nat.and_le_left
  rw [u32_or_nat _ _ (by omega) (by omega), put_low n m (by omega) (by omega)]
  omega
theorem bits_put8 (R x : Int) (h0 : 0 ≤ R) (h1 : R < 4294967296) (x0 : 0 ≤ x) (x1 : x < 256) : bits .or .u32 (bits .andNot .u32 R 65280) (x * 256) = R / 65536 * 65536 + x * 256 + R % 256 := by
  obtain ⟨n, rfl⟩ := Int.eq_ofNat_of_zero_le h0
  obtain ⟨m, rfl⟩ := Int.eq_ofNat_of_zero_le x0
  rw [u32_andNot n 65280 h0 h1 (by decide) (by decide), Int.toNat_natCast, show (4294967295 - Int.toNat 65280) = 4294902015 from rfl]
  have hle : n &&& 4294902015 ≤ n := Nat.and_le_left
  rw [show (m : Int) * 256 = ((m * 256 : Nat) : Int) by omega, u32_or_nat _ _ (by omega) (by omega), put_high n m (by omega) (by omega)]
  omega
theorem and255L (v : Int) (h0 : 0 ≤ v) (h1 : v < 18446744073709551616) : bits .and .u64 v 255 = v % 256 := by
  rw [u64_and v 255 h0 h1 (by decide) (by decide)]
  have h : v.toNat &&& (255 : Int).toNat = v.toNat % 256 := Nat.and_two_pow_sub_one_eq_mod v.toNat 8
  rw [h]
  omega
end Go.Proofs.Ytbbegbaaefgikaa
