/- What the document's own products and quotients (package salternref1) answer, for every input. -/
import Derived.Test.YtahmclgegbinbaaRows
import Derived.Test.YtahmclgegbinbaaPure3
import Derived.ProofKit
import Derived.OpenShut
import Derived.BigRegion
import Derived.Lib.Hide
namespace Go.Proofs.Ytahmclgegbinbaa
open Go.ChangeShapes Go.WideShapes Go.ChangeAt Go.RowKit

set_option maxRecDepth 100000 in
set_option maxHeartbeats 2000000 in
theorem rmul_any (fc fp fz fs fo fd : Bool) (a b : Int) (h0 : 0 ≤ a) (h1 : a < 4294967296) (k0 : 0 ≤ b) (k1 : b < 4294967296) (w : World) :
    Calls Try.prog 12 #[.agg #[.bool fc, .bool fp, .bool fz, .bool fs, .bool fo, .bool fd], .int .u32 a, .int .u32 b] w fun e w' =>
   e = .returned (.tuple #[.int .u32 (mulH a b), .int .u32 (mulL a b), .agg #[.bool (mulC a b), .bool fp, .bool fz, .bool fs, .bool (mulC a b), .bool fd]]) ∧ Below w.heap.size w w' := by
  have m0 := mul_lo a b h0 k0
  have m1 := mul_hi a b h1 k0 k1
  go_enter Try.func12, Try.ntmps12
  go_wp2
  go_region
  all_goals
    go_wp2
    have hB := Below.refl w.heap.size w
    refine bodyPost_ret (v := .tuple #[.int .u32 (mulH a b), .int .u32 (mulL a b), .agg #[.bool (mulC a b), .bool fp, .bool fz, .bool fs, .bool (mulC a b), .bool fd]]) (by simp [results, Try.results12, go_sem, mulH, mulL, mulC]) rfl ⟨rfl, ?_⟩
    repeat' (first | (with_reducible exact hB) | (with_reducible refine Below.drew ?_) | (with_reducible refine Below.setCell ?_ ?_ _) | (with_reducible refine Below.alloc ?_ ?_ _) | (simp <;> omega))

set_option maxRecDepth 100000 in
set_option maxHeartbeats 4000000 in
theorem rimul_any (fc fp fz fs fo fd : Bool) (a b : Int) (w : World) :
    Calls Try.prog 14 #[.agg #[.bool fc, .bool fp, .bool fz, .bool fs, .bool fo, .bool fd], .int .u32 a, .int .u32 b] w fun e w' =>
   e = .returned (.tuple #[.int .u32 (imulH a b), .int .u32 (imulL a b), .agg #[.bool (imulC a b), .bool fp, .bool fz, .bool fs, .bool (imulC a b), .bool fd]]) ∧ Below w.heap.size w w' := by
  have a0 := wrap32_lo a
  have a1 := wrap32_hi a
  have b0 := wrap32_lo b
  have b1 := wrap32_hi b
  have p0 := imul_lo a b
  have p1 := imul_hi a b
  have hP : wrap32 a * wrap32 b = imulP a b := rfl
  have hH := Lib.hid (show imulH a b = imulP a b % 18446744073709551616 / 4294967296 from rfl)
  have hL := Lib.hid (show imulL a b = imulP a b % 4294967296 from rfl)
  have hC := Lib.hid (show imulC a b = (decide (imulP a b < -2147483648) || decide (2147483647 < imulP a b)) from rfl)
  generalize imulP a b = P at *
  by_cases c1 : P < -2147483648
  · have hCt : imulC a b = true := by rw [hC.out]; simp [c1]
    have hCT := Lib.hid hCt
    clear hCt
    go_enter Try.func14, Try.ntmps14
    go_wp2
    go_region
    all_goals
      go_wp2
      have hB := Below.refl w.heap.size w
      refine bodyPost_ret (v := .tuple #[.int .u32 (imulH a b), .int .u32 (imulL a b), .agg #[.bool (imulC a b), .bool fp, .bool fz, .bool fs, .bool (imulC a b), .bool fd]]) (by rw [hH.out, hL.out, hCT.out]; simp [results, Try.results14, go_sem]; (try rw [IntKind.wrap_u64]); omega) rfl ⟨rfl, ?_⟩
      repeat' (first | (with_reducible exact hB) | (with_reducible refine Below.drew ?_) | (with_reducible refine Below.setCell ?_ ?_ _) | (with_reducible refine Below.alloc ?_ ?_ _) | (simp <;> omega))
  · by_cases c2 : 2147483647 < P
    all_goals
      have hCT := Lib.hid (show imulC a b = decide (2147483647 < P) by rw [hC.out]; simp [c1])
      simp only [c2, decide_true, decide_false] at hCT
      go_enter Try.func14, Try.ntmps14
      go_wp2
      go_region
      all_goals
        go_wp2
        have hB := Below.refl w.heap.size w
        refine bodyPost_ret (v := .tuple #[.int .u32 (imulH a b), .int .u32 (imulL a b), .agg #[.bool (imulC a b), .bool fp, .bool fz, .bool fs, .bool (imulC a b), .bool fd]]) (by rw [hH.out, hL.out, hCT.out]; simp [results, Try.results14, go_sem]; (try rw [IntKind.wrap_u64]); omega) rfl ⟨rfl, ?_⟩
        repeat' (first | (with_reducible exact hB) | (with_reducible refine Below.drew ?_) | (with_reducible refine Below.setCell ?_ ?_ _) | (with_reducible refine Below.alloc ?_ ?_ _) | (simp <;> omega))

/-- The quotient of 64 bits by 32, and the rest; whether there is one. -/
def divOk (hi_ by_ : Int) : Bool := decide (hi_ < by_)
def divQ (h l d : Int) : Int := if h < d then both h l / d else 0
def divR (h l d : Int) : Int := if h < d then both h l % d else 0
theorem both_q (h l d : Int) (h0 : 0 ≤ h) (l0 : 0 ≤ l) (l1 : l < 4294967296) (hd : h < d) : 0 ≤ both h l / d ∧ both h l / d < 4294967296 := by
  constructor
  · exact Int.ediv_nonneg (by unfold both; omega) (by omega)
  · refine Int.ediv_lt_of_lt_mul (by omega) ?_
    unfold both
    have := Int.mul_le_mul_of_nonneg_right (show h + 1 ≤ d by omega) (show (0 : Int) ≤ 4294967296 by decide)
    rw [Int.mul_comm 4294967296 d]
    omega

set_option maxRecDepth 100000 in
set_option maxHeartbeats 2000000 in
theorem rdiv_any (h l d : Int) (h0 : 0 ≤ h) (h1 : h < 4294967296) (l0 : 0 ≤ l) (l1 : l < 4294967296) (k0 : 0 ≤ d) (k1 : d < 4294967296) (w : World) :
    Calls Try.prog 16 #[.int .u32 h, .int .u32 l, .int .u32 d] w fun e w' =>
   e = .returned (.tuple #[.int .u32 (divQ h l d), .int .u32 (divR h l d), .bool (divOk h d)]) ∧ Below w.heap.size w w' := by
  by_cases hd : h < d
  · have dz : (d == 0) = false := by rw [beq_eq_false_iff_ne]; omega
    have n0 : 0 ≤ both h l := by unfold both; omega
    have n1 : both h l ≤ 18446744073709551615 := by unfold both; omega
    have hO := both_or h l h0 h1 l0 l1
    obtain ⟨q0, q1⟩ := both_q h l d h0 l0 l1 hd
    have r0 : 0 ≤ both h l % d := Int.emod_nonneg _ (by omega)
    have r1 : both h l % d < 4294967296 := by have := Int.emod_lt_of_pos (both h l) (show 0 < d by omega); omega
    have hQ := Lib.hid (show divQ h l d = both h l / d by unfold divQ; rw [if_pos hd])
    have hR := Lib.hid (show divR h l d = both h l % d by unfold divR; rw [if_pos hd])
    have hK := Lib.hid (show divOk h d = true by unfold divOk; simp [hd])
    generalize both h l = N at *
    go_enter Try.func16, Try.ntmps16
    go_wp2
    go_region
    all_goals
      go_wp2
      refine bodyPost_ret (v := .tuple #[.int .u32 (divQ h l d), .int .u32 (divR h l d), .bool (divOk h d)]) (by rw [hQ.out, hR.out, hK.out]; simp [results, Try.results16, go_sem]) rfl ⟨rfl, ?_⟩
      with_reducible exact (Below.refl _ _).drew
  · have hQ := Lib.hid (show divQ h l d = 0 by unfold divQ; rw [if_neg hd])
    have hR := Lib.hid (show divR h l d = 0 by unfold divR; rw [if_neg hd])
    have hK := Lib.hid (show divOk h d = false by unfold divOk; simp [hd])
    by_cases dz : d = 0
    · have dz' : (d == 0) = true := by rw [beq_iff_eq]; exact dz
      clear dz
      go_enter Try.func16, Try.ntmps16
      go_wp2
      refine bodyPost_ret (v := .tuple #[.int .u32 (divQ h l d), .int .u32 (divR h l d), .bool (divOk h d)]) (by rw [hQ.out, hR.out, hK.out]; simp [results, Try.results16, go_sem]) rfl ⟨rfl, Below.refl _ _⟩
    · have dz' : (d == 0) = false := by rw [beq_eq_false_iff_ne]; exact dz
      clear dz
      go_enter Try.func16, Try.ntmps16
      go_wp2
      refine bodyPost_ret (v := .tuple #[.int .u32 (divQ h l d), .int .u32 (divR h l d), .bool (divOk h d)]) (by rw [hQ.out, hR.out, hK.out]; simp [results, Try.results16, go_sem]) rfl ⟨rfl, Below.refl _ _⟩
end Go.Proofs.Ytahmclgegbinbaa
