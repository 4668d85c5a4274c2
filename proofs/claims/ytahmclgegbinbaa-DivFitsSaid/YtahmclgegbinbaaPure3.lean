/- Plain arithmetic of layer 3: products and quotients. No program is named here. -/
import Derived.Test.YtahmclgegbinbaaPure1
namespace Go.Proofs.Ytahmclgegbinbaa
open Go.RowKit

def mulH (a b : Int) : Int := a * b / 4294967296
def mulL (a b : Int) : Int := a * b % 4294967296
def mulC (a b : Int) : Bool := a * b / 4294967296 != 0
theorem mul_lo (a b : Int) (h0 : 0 ≤ a) (k0 : 0 ≤ b) : 0 ≤ a * b := Int.mul_nonneg h0 k0
theorem mul_hi (a b : Int) (h1 : a < 4294967296) (k0 : 0 ≤ b) (k1 : b < 4294967296) : a * b ≤ 18446744065119617025 := by
  have h2 : a * b ≤ 4294967295 * b := Int.mul_le_mul_of_nonneg_right (by omega) k0
  omega
def imulP (a b : Int) : Int := wrap32 a * wrap32 b
def imulH (a b : Int) : Int := imulP a b % 18446744073709551616 / 4294967296
def imulL (a b : Int) : Int := imulP a b % 4294967296
def imulC (a b : Int) : Bool := decide (imulP a b < -2147483648) || decide (2147483647 < imulP a b)
theorem wrap32_lo (a : Int) : -2147483648 ≤ wrap32 a := by unfold wrap32; omega
theorem wrap32_hi (a : Int) : wrap32 a ≤ 2147483647 := by unfold wrap32; omega
theorem imul_lo (a b : Int) : -4611686018427387904 ≤ imulP a b := by
  have a0 := wrap32_lo a
  have a1 := wrap32_hi a
  have b0 := wrap32_lo b
  have b1 := wrap32_hi b
  unfold imulP
  generalize wrap32 a = x at *
  generalize wrap32 b = y at *
  rcases Int.lt_or_le x 0 with h | h
  · rcases Int.lt_or_le y 0 with g | g
    · have := Int.mul_nonneg (show 0 ≤ -x by omega) (show 0 ≤ -y by omega)
      rw [Int.neg_mul_neg] at this
      omega
    · have h2 : -x * y ≤ 2147483648 * y := Int.mul_le_mul_of_nonneg_right (by omega) g
      rw [Int.neg_mul] at h2
      omega
  · rcases Int.lt_or_le y 0 with g | g
    · have h2 : -y * x ≤ 2147483648 * x := Int.mul_le_mul_of_nonneg_right (by omega) h
      rw [Int.neg_mul, Int.mul_comm y x] at h2
      omega
    · have := Int.mul_nonneg h g
      omega
theorem imul_hi (a b : Int) : imulP a b ≤ 4611686018427387904 := by
  have a0 := wrap32_lo a
  have a1 := wrap32_hi a
  have b0 := wrap32_lo b
  have b1 := wrap32_hi b
  unfold imulP
  generalize wrap32 a = x at *
  generalize wrap32 b = y at *
  rcases Int.lt_or_le x 0 with h | h
  · rcases Int.lt_or_le y 0 with g | g
    · have h2 : -x * -y ≤ 2147483648 * -y := Int.mul_le_mul_of_nonneg_right (by omega) (by omega)
      rw [Int.neg_mul_neg] at h2
      omega
    · have := Int.mul_nonneg (show 0 ≤ -x by omega) g
      rw [Int.neg_mul] at this
      omega
  · rcases Int.lt_or_le y 0 with g | g
    · have := Int.mul_nonneg h (show 0 ≤ -y by omega)
      rw [Int.mul_neg] at this
      omega
    · have h2 : x * y ≤ 2147483648 * y := Int.mul_le_mul_of_nonneg_right (by omega) g
      omega
/-- Two halves of 64 bits laid together. -/
def both (h l : Int) : Int := h * 4294967296 + l
theorem both_or (h l : Int) (h0 : 0 ≤ h) (h1 : h < 4294967296) (l0 : 0 ≤ l) (l1 : l < 4294967296) : bits .or .u64 (h * 4294967296) l = both h l :=
  bits_join .u64 64 (by decide) (fun m h0 h1 => by rw [IntKind.wrap_u64]; omega) 32 _ _ (by omega) (by omega) (by simp; omega) l0 (by simpa using l1) (by simp; omega)
end Go.Proofs.Ytahmclgegbinbaa
