import Derived.Deep.DeepCutAuto
import Derived.Test.YtlnahkkemjgjbaaKED
namespace Go.Proofs.Ytlnahkkemjgjbaa
open Go.ChangeShapes Go.WideShapes Go.ChangeAt Go.RowKit
section
attribute [local go_sem] isSome_setCell
set_option maxRecDepth 100000
set_option maxHeartbeats 4000000
theorem first_169 (reg : Int) (m3 : Bool) (w : World) : Calls Try.prog 13 #[.int .u8 169, .int .i64 reg, .bool m3] w fun e w' => e = .returned (fstL (firstF 169 reg m3)) ∧ Below w.heap.size w w' := by
  go_enter Try.func13, Try.ntmps13
  go_wp2_with (first | (go_at_call 24; refine (size4_any _ (by first | decide | omega) (by first | decide | omega) _).mono ?_; rintro e w' ⟨rfl, rfl⟩) | (go_at_call 25; refine (is_any _ _ _ _ (by first | decide | omega) (by first | decide | omega) _).mono ?_; rintro e w1 ⟨rfl, B1⟩; have HB := Lib.hid (below_step (below_last (Below.refl _ _) _) B1); obtain ⟨q1, hz⟩ := bcell B1; clear B1))
  refine bodyPost_ret (v := fstL (firstF 169 reg m3)) (by simp [results, Try.results13, go_sem, q1, fstL, firstF, isF]) rfl ⟨rfl, ?_⟩
  exact below5 HB.out _ (Nat.le_refl _)
theorem first_170 (reg : Int) (m3 : Bool) (w : World) : Calls Try.prog 13 #[.int .u8 170, .int .i64 reg, .bool m3] w fun e w' => e = .returned (fstL (firstF 170 reg m3)) ∧ Below w.heap.size w w' := by
  go_enter Try.func13, Try.ntmps13
  go_wp2_with (first | (go_at_call 24; refine (size4_any _ (by first | decide | omega) (by first | decide | omega) _).mono ?_; rintro e w' ⟨rfl, rfl⟩) | (go_at_call 25; refine (is_any _ _ _ _ (by first | decide | omega) (by first | decide | omega) _).mono ?_; rintro e w1 ⟨rfl, B1⟩; have HB := Lib.hid (below_step (below_last (Below.refl _ _) _) B1); obtain ⟨q1, hz⟩ := bcell B1; clear B1))
  refine bodyPost_ret (v := fstL (firstF 170 reg m3)) (by simp [results, Try.results13, go_sem, q1, fstL, firstF, isF]) rfl ⟨rfl, ?_⟩
  exact below5 HB.out _ (Nat.le_refl _)
theorem first_171 (reg : Int) (m3 : Bool) (w : World) : Calls Try.prog 13 #[.int .u8 171, .int .i64 reg, .bool m3] w fun e w' => e = .returned (fstL (firstF 171 reg m3)) ∧ Below w.heap.size w w' := by
  go_enter Try.func13, Try.ntmps13
  go_wp2_with (first | (go_at_call 24; refine (size4_any _ (by first | decide | omega) (by first | decide | omega) _).mono ?_; rintro e w' ⟨rfl, rfl⟩) | (go_at_call 25; refine (is_any _ _ _ _ (by first | decide | omega) (by first | decide | omega) _).mono ?_; rintro e w1 ⟨rfl, B1⟩; have HB := Lib.hid (below_step (below_last (Below.refl _ _) _) B1); obtain ⟨q1, hz⟩ := bcell B1; clear B1))
  refine bodyPost_ret (v := fstL (firstF 171 reg m3)) (by simp [results, Try.results13, go_sem, q1, fstL, firstF, isF]) rfl ⟨rfl, ?_⟩
  exact below5 HB.out _ (Nat.le_refl _)
theorem first_172 (reg : Int) (m3 : Bool) (w : World) : Calls Try.prog 13 #[.int .u8 172, .int .i64 reg, .bool m3] w fun e w' => e = .returned (fstL (firstF 172 reg m3)) ∧ Below w.heap.size w w' := by
  go_enter Try.func13, Try.ntmps13
  go_wp2_with (first | (go_at_call 24; refine (size4_any _ (by first | decide | omega) (by first | decide | omega) _).mono ?_; rintro e w' ⟨rfl, rfl⟩) | (go_at_call 25; refine (is_any _ _ _ _ (by first | decide | omega) (by first | decide | omega) _).mono ?_; rintro e w1 ⟨rfl, B1⟩; have HB := Lib.hid (below_step (below_last (Below.refl _ _) _) B1); obtain ⟨q1, hz⟩ := bcell B1; clear B1))
  refine bodyPost_ret (v := fstL (firstF 172 reg m3)) (by simp [results, Try.results13, go_sem, q1, fstL, firstF, isF]) rfl ⟨rfl, ?_⟩
  exact below5 HB.out _ (Nat.le_refl _)
theorem first_173 (reg : Int) (m3 : Bool) (w : World) : Calls Try.prog 13 #[.int .u8 173, .int .i64 reg, .bool m3] w fun e w' => e = .returned (fstL (firstF 173 reg m3)) ∧ Below w.heap.size w w' := by
  go_enter Try.func13, Try.ntmps13
  go_wp2_with (first | (go_at_call 24; refine (size4_any _ (by first | decide | omega) (by first | decide | omega) _).mono ?_; rintro e w' ⟨rfl, rfl⟩) | (go_at_call 25; refine (is_any _ _ _ _ (by first | decide | omega) (by first | decide | omega) _).mono ?_; rintro e w1 ⟨rfl, B1⟩; have HB := Lib.hid (below_step (below_last (Below.refl _ _) _) B1); obtain ⟨q1, hz⟩ := bcell B1; clear B1))
  refine bodyPost_ret (v := fstL (firstF 173 reg m3)) (by simp [results, Try.results13, go_sem, q1, fstL, firstF, isF]) rfl ⟨rfl, ?_⟩
  exact below5 HB.out _ (Nat.le_refl _)
theorem first_194 (reg : Int) (m3 : Bool) (w : World) : Calls Try.prog 13 #[.int .u8 194, .int .i64 reg, .bool m3] w fun e w' => e = .returned (fstL (firstF 194 reg m3)) ∧ Below w.heap.size w w' := by
  go_enter Try.func13, Try.ntmps13
  go_wp2_with (first | (go_at_call 24; refine (size4_any _ (by first | decide | omega) (by first | decide | omega) _).mono ?_; rintro e w' ⟨rfl, rfl⟩) | (go_at_call 25; refine (is_any _ _ _ _ (by first | decide | omega) (by first | decide | omega) _).mono ?_; rintro e w1 ⟨rfl, B1⟩; have HB := Lib.hid (below_step (below_last (Below.refl _ _) _) B1); obtain ⟨q1, hz⟩ := bcell B1; clear B1))
  refine bodyPost_ret (v := fstL (firstF 194 reg m3)) (by simp [results, Try.results13, go_sem, q1, fstL, firstF, isF]) rfl ⟨rfl, ?_⟩
  exact below5 HB.out _ (Nat.le_refl _)
theorem first_195 (reg : Int) (m3 : Bool) (w : World) : Calls Try.prog 13 #[.int .u8 195, .int .i64 reg, .bool m3] w fun e w' => e = .returned (fstL (firstF 195 reg m3)) ∧ Below w.heap.size w w' := by
  go_enter Try.func13, Try.ntmps13
  go_wp2_with (first | (go_at_call 24; refine (size4_any _ (by first | decide | omega) (by first | decide | omega) _).mono ?_; rintro e w' ⟨rfl, rfl⟩) | (go_at_call 25; refine (is_any _ _ _ _ (by first | decide | omega) (by first | decide | omega) _).mono ?_; rintro e w1 ⟨rfl, B1⟩; have HB := Lib.hid (below_step (below_last (Below.refl _ _) _) B1); obtain ⟨q1, hz⟩ := bcell B1; clear B1))
  refine bodyPost_ret (v := fstL (firstF 195 reg m3)) (by simp [results, Try.results13, go_sem, q1, fstL, firstF, isF]) rfl ⟨rfl, ?_⟩
  exact below5 HB.out _ (Nat.le_refl _)
theorem first_201 (reg : Int) (m3 : Bool) (w : World) : Calls Try.prog 13 #[.int .u8 201, .int .i64 reg, .bool m3] w fun e w' => e = .returned (fstL (firstF 201 reg m3)) ∧ Below w.heap.size w w' := by
  go_enter Try.func13, Try.ntmps13
  go_wp2_with (first | (go_at_call 24; refine (size4_any _ (by first | decide | omega) (by first | decide | omega) _).mono ?_; rintro e w' ⟨rfl, rfl⟩) | (go_at_call 25; refine (is_any _ _ _ _ (by first | decide | omega) (by first | decide | omega) _).mono ?_; rintro e w1 ⟨rfl, B1⟩; have HB := Lib.hid (below_step (below_last (Below.refl _ _) _) B1); obtain ⟨q1, hz⟩ := bcell B1; clear B1))
  refine bodyPost_ret (v := fstL (firstF 201 reg m3)) (by simp [results, Try.results13, go_sem, q1, fstL, firstF, isF]) rfl ⟨rfl, ?_⟩
  exact below5 HB.out _ (Nat.le_refl _)
theorem first_204 (reg : Int) (m3 : Bool) (w : World) : Calls Try.prog 13 #[.int .u8 204, .int .i64 reg, .bool m3] w fun e w' => e = .returned (fstL (firstF 204 reg m3)) ∧ Below w.heap.size w w' := by
  go_enter Try.func13, Try.ntmps13
  go_wp2_with (first | (go_at_call 24; refine (size4_any _ (by first | decide | omega) (by first | decide | omega) _).mono ?_; rintro e w' ⟨rfl, rfl⟩) | (go_at_call 25; refine (is_any _ _ _ _ (by first | decide | omega) (by first | decide | omega) _).mono ?_; rintro e w1 ⟨rfl, B1⟩; have HB := Lib.hid (below_step (below_last (Below.refl _ _) _) B1); obtain ⟨q1, hz⟩ := bcell B1; clear B1))
  refine bodyPost_ret (v := fstL (firstF 204 reg m3)) (by simp [results, Try.results13, go_sem, q1, fstL, firstF, isF]) rfl ⟨rfl, ?_⟩
  exact below5 HB.out _ (Nat.le_refl _)
theorem first_232 (reg : Int) (m3 : Bool) (w : World) : Calls Try.prog 13 #[.int .u8 232, .int .i64 reg, .bool m3] w fun e w' => e = .returned (fstL (firstF 232 reg m3)) ∧ Below w.heap.size w w' := by
  go_enter Try.func13, Try.ntmps13
  go_wp2_with (first | (go_at_call 24; refine (size4_any _ (by first | decide | omega) (by first | decide | omega) _).mono ?_; rintro e w' ⟨rfl, rfl⟩) | (go_at_call 25; refine (is_any _ _ _ _ (by first | decide | omega) (by first | decide | omega) _).mono ?_; rintro e w1 ⟨rfl, B1⟩; have HB := Lib.hid (below_step (below_last (Below.refl _ _) _) B1); obtain ⟨q1, hz⟩ := bcell B1; clear B1))
  refine bodyPost_ret (v := fstL (firstF 232 reg m3)) (by simp [results, Try.results13, go_sem, q1, fstL, firstF, isF]) rfl ⟨rfl, ?_⟩
  exact below5 HB.out _ (Nat.le_refl _)
end
section
attribute [local go_sem] isSome_setCell
set_option maxRecDepth 100000
set_option maxHeartbeats 4000000
theorem first_233 (reg : Int) (m3 : Bool) (w : World) : Calls Try.prog 13 #[.int .u8 233, .int .i64 reg, .bool m3] w fun e w' => e = .returned (fstL (firstF 233 reg m3)) ∧ Below w.heap.size w w' := by
  go_enter Try.func13, Try.ntmps13
  go_wp2_with (first | (go_at_call 24; refine (size4_any _ (by first | decide | omega) (by first | decide | omega) _).mono ?_; rintro e w' ⟨rfl, rfl⟩) | (go_at_call 25; refine (is_any _ _ _ _ (by first | decide | omega) (by first | decide | omega) _).mono ?_; rintro e w1 ⟨rfl, B1⟩; have HB := Lib.hid (below_step (below_last (Below.refl _ _) _) B1); obtain ⟨q1, hz⟩ := bcell B1; clear B1))
  refine bodyPost_ret (v := fstL (firstF 233 reg m3)) (by simp [results, Try.results13, go_sem, q1, fstL, firstF, isF]) rfl ⟨rfl, ?_⟩
  exact below5 HB.out _ (Nat.le_refl _)
theorem first_235 (reg : Int) (m3 : Bool) (w : World) : Calls Try.prog 13 #[.int .u8 235, .int .i64 reg, .bool m3] w fun e w' => e = .returned (fstL (firstF 235 reg m3)) ∧ Below w.heap.size w w' := by
  go_enter Try.func13, Try.ntmps13
  go_wp2_with (first | (go_at_call 24; refine (size4_any _ (by first | decide | omega) (by first | decide | omega) _).mono ?_; rintro e w' ⟨rfl, rfl⟩) | (go_at_call 25; refine (is_any _ _ _ _ (by first | decide | omega) (by first | decide | omega) _).mono ?_; rintro e w1 ⟨rfl, B1⟩; have HB := Lib.hid (below_step (below_last (Below.refl _ _) _) B1); obtain ⟨q1, hz⟩ := bcell B1; clear B1))
  refine bodyPost_ret (v := fstL (firstF 235 reg m3)) (by simp [results, Try.results13, go_sem, q1, fstL, firstF, isF]) rfl ⟨rfl, ?_⟩
  exact below5 HB.out _ (Nat.le_refl _)
theorem first_244 (reg : Int) (m3 : Bool) (w : World) : Calls Try.prog 13 #[.int .u8 244, .int .i64 reg, .bool m3] w fun e w' => e = .returned (fstL (firstF 244 reg m3)) ∧ Below w.heap.size w w' := by
  go_enter Try.func13, Try.ntmps13
  go_wp2_with (first | (go_at_call 24; refine (size4_any _ (by first | decide | omega) (by first | decide | omega) _).mono ?_; rintro e w' ⟨rfl, rfl⟩) | (go_at_call 25; refine (is_any _ _ _ _ (by first | decide | omega) (by first | decide | omega) _).mono ?_; rintro e w1 ⟨rfl, B1⟩; have HB := Lib.hid (below_step (below_last (Below.refl _ _) _) B1); obtain ⟨q1, hz⟩ := bcell B1; clear B1))
  refine bodyPost_ret (v := fstL (firstF 244 reg m3)) (by simp [results, Try.results13, go_sem, q1, fstL, firstF, isF]) rfl ⟨rfl, ?_⟩
  exact below5 HB.out _ (Nat.le_refl _)
theorem first_245 (reg : Int) (m3 : Bool) (w : World) : Calls Try.prog 13 #[.int .u8 245, .int .i64 reg, .bool m3] w fun e w' => e = .returned (fstL (firstF 245 reg m3)) ∧ Below w.heap.size w w' := by
  go_enter Try.func13, Try.ntmps13
  go_wp2_with (first | (go_at_call 24; refine (size4_any _ (by first | decide | omega) (by first | decide | omega) _).mono ?_; rintro e w' ⟨rfl, rfl⟩) | (go_at_call 25; refine (is_any _ _ _ _ (by first | decide | omega) (by first | decide | omega) _).mono ?_; rintro e w1 ⟨rfl, B1⟩; have HB := Lib.hid (below_step (below_last (Below.refl _ _) _) B1); obtain ⟨q1, hz⟩ := bcell B1; clear B1))
  refine bodyPost_ret (v := fstL (firstF 245 reg m3)) (by simp [results, Try.results13, go_sem, q1, fstL, firstF, isF]) rfl ⟨rfl, ?_⟩
  exact below5 HB.out _ (Nat.le_refl _)
theorem first_248 (reg : Int) (m3 : Bool) (w : World) : Calls Try.prog 13 #[.int .u8 248, .int .i64 reg, .bool m3] w fun e w' => e = .returned (fstL (firstF 248 reg m3)) ∧ Below w.heap.size w w' := by
  go_enter Try.func13, Try.ntmps13
  go_wp2_with (first | (go_at_call 24; refine (size4_any _ (by first | decide | omega) (by first | decide | omega) _).mono ?_; rintro e w' ⟨rfl, rfl⟩) | (go_at_call 25; refine (is_any _ _ _ _ (by first | decide | omega) (by first | decide | omega) _).mono ?_; rintro e w1 ⟨rfl, B1⟩; have HB := Lib.hid (below_step (below_last (Below.refl _ _) _) B1); obtain ⟨q1, hz⟩ := bcell B1; clear B1))
  refine bodyPost_ret (v := fstL (firstF 248 reg m3)) (by simp [results, Try.results13, go_sem, q1, fstL, firstF, isF]) rfl ⟨rfl, ?_⟩
  exact below5 HB.out _ (Nat.le_refl _)
theorem first_249 (reg : Int) (m3 : Bool) (w : World) : Calls Try.prog 13 #[.int .u8 249, .int .i64 reg, .bool m3] w fun e w' => e = .returned (fstL (firstF 249 reg m3)) ∧ Below w.heap.size w w' := by
  go_enter Try.func13, Try.ntmps13
  go_wp2_with (first | (go_at_call 24; refine (size4_any _ (by first | decide | omega) (by first | decide | omega) _).mono ?_; rintro e w' ⟨rfl, rfl⟩) | (go_at_call 25; refine (is_any _ _ _ _ (by first | decide | omega) (by first | decide | omega) _).mono ?_; rintro e w1 ⟨rfl, B1⟩; have HB := Lib.hid (below_step (below_last (Below.refl _ _) _) B1); obtain ⟨q1, hz⟩ := bcell B1; clear B1))
  refine bodyPost_ret (v := fstL (firstF 249 reg m3)) (by simp [results, Try.results13, go_sem, q1, fstL, firstF, isF]) rfl ⟨rfl, ?_⟩
  exact below5 HB.out _ (Nat.le_refl _)
theorem first_252 (reg : Int) (m3 : Bool) (w : World) : Calls Try.prog 13 #[.int .u8 252, .int .i64 reg, .bool m3] w fun e w' => e = .returned (fstL (firstF 252 reg m3)) ∧ Below w.heap.size w w' := by
  go_enter Try.func13, Try.ntmps13
  go_wp2_with (first | (go_at_call 24; refine (size4_any _ (by first | decide | omega) (by first | decide | omega) _).mono ?_; rintro e w' ⟨rfl, rfl⟩) | (go_at_call 25; refine (is_any _ _ _ _ (by first | decide | omega) (by first | decide | omega) _).mono ?_; rintro e w1 ⟨rfl, B1⟩; have HB := Lib.hid (below_step (below_last (Below.refl _ _) _) B1); obtain ⟨q1, hz⟩ := bcell B1; clear B1))
  refine bodyPost_ret (v := fstL (firstF 252 reg m3)) (by simp [results, Try.results13, go_sem, q1, fstL, firstF, isF]) rfl ⟨rfl, ?_⟩
  exact below5 HB.out _ (Nat.le_refl _)
theorem first_253 (reg : Int) (m3 : Bool) (w : World) : Calls Try.prog 13 #[.int .u8 253, .int .i64 reg, .bool m3] w fun e w' => e = .returned (fstL (firstF 253 reg m3)) ∧ Below w.heap.size w w' := by
  go_enter Try.func13, Try.ntmps13
  go_wp2_with (first | (go_at_call 24; refine (size4_any _ (by first | decide | omega) (by first | decide | omega) _).mono ?_; rintro e w' ⟨rfl, rfl⟩) | (go_at_call 25; refine (is_any _ _ _ _ (by first | decide | omega) (by first | decide | omega) _).mono ?_; rintro e w1 ⟨rfl, B1⟩; have HB := Lib.hid (below_step (below_last (Below.refl _ _) _) B1); obtain ⟨q1, hz⟩ := bcell B1; clear B1))
  refine bodyPost_ret (v := fstL (firstF 253 reg m3)) (by simp [results, Try.results13, go_sem, q1, fstL, firstF, isF]) rfl ⟨rfl, ?_⟩
  exact below5 HB.out _ (Nat.le_refl _)
end
end Go.Proofs.Ytlnahkkemjgjbaa
