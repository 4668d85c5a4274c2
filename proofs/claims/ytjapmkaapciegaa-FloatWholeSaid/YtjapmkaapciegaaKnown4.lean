/- The statements' own first look at doubles. -/
import Derived.Test.YtjapmkaapciegaaFlt
import Derived.Test.YtjapmkaapciegaaFlags
namespace Go.Proofs.Ytjapmkaapciegaa
open Go.ChangeShapes Go.WideShapes Go.ChangeAt Go.RowKit

theorem k4_a : fltN 56 4607182418800017408 9223372036854775808 = 18442240474082181120 := by decide +kernel
theorem k4_b : fltN 58 0 9223372036854775808 = 9223372036854775808 := by decide +kernel
theorem k4_c : toN 9221120237041090561 = 2147483648 := by decide +kernel
theorem k4_d : fromN 4294967295 = 13830554455654793216 := by decide +kernel
theorem k4_e : cmpC 0 9223372036854775808 = false ∧ cmpP 0 9223372036854775808 = false ∧ cmpZ 0 9223372036854775808 = true := by decide +kernel
theorem k4_f : nanB 9218868437227405313 = true := by decide +kernel
theorem k4_g : nanB 9218868437227405312 = false := by decide +kernel
theorem fdo_k1 (w : World) : Calls Try.prog 13 #[.int .i64 56, .int .u64 4607182418800017408, .int .u64 9223372036854775808] w fun e w' => e = .returned (.int .u64 18442240474082181120) ∧ Below w.heap.size w w' := by
  have h := fdo_any 56 4607182418800017408 9223372036854775808 (by decide) (by decide) w
  rw [k4_a] at h
  exact h
theorem fdo_k2 (w : World) : Calls Try.prog 13 #[.int .i64 58, .int .u64 0, .int .u64 9223372036854775808] w fun e w' => e = .returned (.int .u64 9223372036854775808) ∧ Below w.heap.size w w' := by
  have h := fdo_any 58 0 9223372036854775808 (by decide) (by decide) w
  rw [k4_b] at h
  exact h
theorem ftoint_k (w : World) : Calls Try.prog 17 #[.int .u64 9221120237041090561] w fun e w' => e = .returned (.int .u32 2147483648) ∧ Below w.heap.size w w' := by
  have h := ftoint_any 9221120237041090561 (by decide) w
  rw [k4_c] at h
  exact h
theorem ffrom_k (w : World) : Calls Try.prog 23 #[.int .u32 4294967295] w fun e w' => e = .returned (.int .u64 13830554455654793216) ∧ Below w.heap.size w w' := by
  have h := ffrom_any 4294967295 (by decide) (by decide) w
  rw [k4_d] at h
  exact h
theorem fcompare_k (w : World) : Calls Try.prog 15 #[.int .u64 0, .int .u64 9223372036854775808] w fun e w' => e = .returned (.agg #[.bool false, .bool false, .bool true, .bool false, .bool false, .bool false]) ∧ Below w.heap.size w w' := by
  have h := fcompare_any 0 9223372036854775808 (by decide) (by decide) w
  rw [k4_e.1, k4_e.2.1, k4_e.2.2] at h
  exact h
theorem fisnan_k1 (w : World) : Calls Try.prog 19 #[.int .u64 9218868437227405313] w fun e w' => e = .returned (.bool true) ∧ Below w.heap.size w w' := by
  have h := fisnan_any 9218868437227405313 (by decide) w
  rw [k4_f] at h
  exact h
theorem fisnan_k2 (w : World) : Calls Try.prog 19 #[.int .u64 9218868437227405312] w fun e w' => e = .returned (.bool false) ∧ Below w.heap.size w w' := by
  have h := fisnan_any 9218868437227405312 (by decide) w
  rw [k4_g] at h
  exact h
attribute [local go_sem] isSome_setCell flags_guard flags_eql flags_neq
set_option maxRecDepth 100000 in
set_option maxHeartbeats 2000000 in
theorem known4_any (w : World) : Calls Try.prog 11 #[] w fun e w' => e = .returned (.bool true) ∧ Below w.heap.size w w' := by
  go_enter Try.func11, Try.ntmps11
  go_wp2_with fail
  refine (fdo_k1 _).mono ?_
  rintro e w1 ⟨rfl, hb1⟩
  have B1 := hb1
  go_wp2_with fail
  refine (fdo_k2 _).mono ?_
  rintro e w2 ⟨rfl, hb2⟩
  have B2 := B1.trans (hb2.mono B1.size)
  go_wp2_with fail
  refine (ftoint_k _).mono ?_
  rintro e w3 ⟨rfl, hb3⟩
  have B3 := B2.trans (hb3.mono B2.size)
  go_wp2_with fail
  refine (ffrom_k _).mono ?_
  rintro e w4 ⟨rfl, hb4⟩
  have B4 := B3.trans (hb4.mono B3.size)
  go_wp2_with fail
  refine (fcompare_k _).mono ?_
  rintro e w5 ⟨rfl, hb5⟩
  have B5 := B4.trans (hb5.mono B4.size)
  go_wp2_with fail
  refine (fisnan_k1 _).mono ?_
  rintro e w6 ⟨rfl, hb6⟩
  have B6 := B5.trans (hb6.mono B5.size)
  go_wp2_with fail
  refine (fisnan_k2 _).mono ?_
  rintro e w7 ⟨rfl, hb7⟩
  have B7 := B6.trans (hb7.mono B6.size)
  go_wp2_with fail
  go_ret
  exact ⟨rfl, B7⟩
end Go.Proofs.Ytjapmkaapciegaa
