import Derived.Deep.DeepCutAuto
import Derived.Test.YtlnahkkemjgjbaaKED
namespace Go.Proofs.Ytlnahkkemjgjbaa
open Go.ChangeShapes Go.WideShapes Go.ChangeAt Go.RowKit
section
attribute [local go_sem] isSome_setCell
set_option maxRecDepth 100000
set_option maxHeartbeats 4000000
theorem first_104 (reg : Int) (m3 : Bool) (w : World) : Calls Try.prog 13 #[.int .u8 104, .int .i64 reg, .bool m3] w fun e w' => e = .returned (fstL (firstF 104 reg m3)) ∧ Below w.heap.size w w' := by
  go_enter Try.func13, Try.ntmps13
  go_wp2_with (first | (go_at_call 24; refine (size4_any _ (by first | decide | omega) (by first | decide | omega) _).mono ?_; rintro e w' ⟨rfl, rfl⟩) | (go_at_call 25; refine (is_any _ _ _ _ (by first | decide | omega) (by first | decide | omega) _).mono ?_; rintro e w1 ⟨rfl, B1⟩; have HB := Lib.hid (below_step (below_last (Below.refl _ _) _) B1); obtain ⟨q1, hz⟩ := bcell B1; clear B1))
  refine bodyPost_ret (v := fstL (firstF 104 reg m3)) (by simp [results, Try.results13, go_sem, q1, fstL, firstF, isF]) rfl ⟨rfl, ?_⟩
  exact below5 HB.out _ (Nat.le_refl _)
theorem first_106 (reg : Int) (m3 : Bool) (w : World) : Calls Try.prog 13 #[.int .u8 106, .int .i64 reg, .bool m3] w fun e w' => e = .returned (fstL (firstF 106 reg m3)) ∧ Below w.heap.size w w' := by
  go_enter Try.func13, Try.ntmps13
  go_wp2_with (first | (go_at_call 24; refine (size4_any _ (by first | decide | omega) (by first | decide | omega) _).mono ?_; rintro e w' ⟨rfl, rfl⟩) | (go_at_call 25; refine (is_any _ _ _ _ (by first | decide | omega) (by first | decide | omega) _).mono ?_; rintro e w1 ⟨rfl, B1⟩; have HB := Lib.hid (below_step (below_last (Below.refl _ _) _) B1); obtain ⟨q1, hz⟩ := bcell B1; clear B1))
  refine bodyPost_ret (v := fstL (firstF 106 reg m3)) (by simp [results, Try.results13, go_sem, q1, fstL, firstF, isF]) rfl ⟨rfl, ?_⟩
  exact below5 HB.out _ (Nat.le_refl _)
theorem first_132 (reg : Int) (m3 : Bool) (w : World) : Calls Try.prog 13 #[.int .u8 132, .int .i64 reg, .bool m3] w fun e w' => e = .returned (fstL (firstF 132 reg m3)) ∧ Below w.heap.size w w' := by
  go_enter Try.func13, Try.ntmps13
  go_wp2_with (first | (go_at_call 24; refine (size4_any _ (by first | decide | omega) (by first | decide | omega) _).mono ?_; rintro e w' ⟨rfl, rfl⟩) | (go_at_call 25; refine (is_any _ _ _ _ (by first | decide | omega) (by first | decide | omega) _).mono ?_; rintro e w1 ⟨rfl, B1⟩; have HB := Lib.hid (below_step (below_last (Below.refl _ _) _) B1); obtain ⟨q1, hz⟩ := bcell B1; clear B1))
  refine bodyPost_ret (v := fstL (firstF 132 reg m3)) (by simp [results, Try.results13, go_sem, q1, fstL, firstF, isF]) rfl ⟨rfl, ?_⟩
  exact below5 HB.out _ (Nat.le_refl _)
theorem first_133 (reg : Int) (m3 : Bool) (w : World) : Calls Try.prog 13 #[.int .u8 133, .int .i64 reg, .bool m3] w fun e w' => e = .returned (fstL (firstF 133 reg m3)) ∧ Below w.heap.size w w' := by
  go_enter Try.func13, Try.ntmps13
  go_wp2_with (first | (go_at_call 24; refine (size4_any _ (by first | decide | omega) (by first | decide | omega) _).mono ?_; rintro e w' ⟨rfl, rfl⟩) | (go_at_call 25; refine (is_any _ _ _ _ (by first | decide | omega) (by first | decide | omega) _).mono ?_; rintro e w1 ⟨rfl, B1⟩; have HB := Lib.hid (below_step (below_last (Below.refl _ _) _) B1); obtain ⟨q1, hz⟩ := bcell B1; clear B1))
  refine bodyPost_ret (v := fstL (firstF 133 reg m3)) (by simp [results, Try.results13, go_sem, q1, fstL, firstF, isF]) rfl ⟨rfl, ?_⟩
  exact below5 HB.out _ (Nat.le_refl _)
theorem first_134 (reg : Int) (m3 : Bool) (w : World) : Calls Try.prog 13 #[.int .u8 134, .int .i64 reg, .bool m3] w fun e w' => e = .returned (fstL (firstF 134 reg m3)) ∧ Below w.heap.size w w' := by
  go_enter Try.func13, Try.ntmps13
  go_wp2_with (first | (go_at_call 24; refine (size4_any _ (by first | decide | omega) (by first | decide | omega) _).mono ?_; rintro e w' ⟨rfl, rfl⟩) | (go_at_call 25; refine (is_any _ _ _ _ (by first | decide | omega) (by first | decide | omega) _).mono ?_; rintro e w1 ⟨rfl, B1⟩; have HB := Lib.hid (below_step (below_last (Below.refl _ _) _) B1); obtain ⟨q1, hz⟩ := bcell B1; clear B1))
  refine bodyPost_ret (v := fstL (firstF 134 reg m3)) (by simp [results, Try.results13, go_sem, q1, fstL, firstF, isF]) rfl ⟨rfl, ?_⟩
  exact below5 HB.out _ (Nat.le_refl _)
theorem first_135 (reg : Int) (m3 : Bool) (w : World) : Calls Try.prog 13 #[.int .u8 135, .int .i64 reg, .bool m3] w fun e w' => e = .returned (fstL (firstF 135 reg m3)) ∧ Below w.heap.size w w' := by
  go_enter Try.func13, Try.ntmps13
  go_wp2_with (first | (go_at_call 24; refine (size4_any _ (by first | decide | omega) (by first | decide | omega) _).mono ?_; rintro e w' ⟨rfl, rfl⟩) | (go_at_call 25; refine (is_any _ _ _ _ (by first | decide | omega) (by first | decide | omega) _).mono ?_; rintro e w1 ⟨rfl, B1⟩; have HB := Lib.hid (below_step (below_last (Below.refl _ _) _) B1); obtain ⟨q1, hz⟩ := bcell B1; clear B1))
  refine bodyPost_ret (v := fstL (firstF 135 reg m3)) (by simp [results, Try.results13, go_sem, q1, fstL, firstF, isF]) rfl ⟨rfl, ?_⟩
  exact below5 HB.out _ (Nat.le_refl _)
theorem first_136 (reg : Int) (m3 : Bool) (w : World) : Calls Try.prog 13 #[.int .u8 136, .int .i64 reg, .bool m3] w fun e w' => e = .returned (fstL (firstF 136 reg m3)) ∧ Below w.heap.size w w' := by
  go_enter Try.func13, Try.ntmps13
  go_wp2_with (first | (go_at_call 24; refine (size4_any _ (by first | decide | omega) (by first | decide | omega) _).mono ?_; rintro e w' ⟨rfl, rfl⟩) | (go_at_call 25; refine (is_any _ _ _ _ (by first | decide | omega) (by first | decide | omega) _).mono ?_; rintro e w1 ⟨rfl, B1⟩; have HB := Lib.hid (below_step (below_last (Below.refl _ _) _) B1); obtain ⟨q1, hz⟩ := bcell B1; clear B1))
  refine bodyPost_ret (v := fstL (firstF 136 reg m3)) (by simp [results, Try.results13, go_sem, q1, fstL, firstF, isF]) rfl ⟨rfl, ?_⟩
  exact below5 HB.out _ (Nat.le_refl _)
theorem first_137 (reg : Int) (m3 : Bool) (w : World) : Calls Try.prog 13 #[.int .u8 137, .int .i64 reg, .bool m3] w fun e w' => e = .returned (fstL (firstF 137 reg m3)) ∧ Below w.heap.size w w' := by
  go_enter Try.func13, Try.ntmps13
  go_wp2_with (first | (go_at_call 24; refine (size4_any _ (by first | decide | omega) (by first | decide | omega) _).mono ?_; rintro e w' ⟨rfl, rfl⟩) | (go_at_call 25; refine (is_any _ _ _ _ (by first | decide | omega) (by first | decide | omega) _).mono ?_; rintro e w1 ⟨rfl, B1⟩; have HB := Lib.hid (below_step (below_last (Below.refl _ _) _) B1); obtain ⟨q1, hz⟩ := bcell B1; clear B1))
  refine bodyPost_ret (v := fstL (firstF 137 reg m3)) (by simp [results, Try.results13, go_sem, q1, fstL, firstF, isF]) rfl ⟨rfl, ?_⟩
  exact below5 HB.out _ (Nat.le_refl _)
theorem first_138 (reg : Int) (m3 : Bool) (w : World) : Calls Try.prog 13 #[.int .u8 138, .int .i64 reg, .bool m3] w fun e w' => e = .returned (fstL (firstF 138 reg m3)) ∧ Below w.heap.size w w' := by
  go_enter Try.func13, Try.ntmps13
  go_wp2_with (first | (go_at_call 24; refine (size4_any _ (by first | decide | omega) (by first | decide | omega) _).mono ?_; rintro e w' ⟨rfl, rfl⟩) | (go_at_call 25; refine (is_any _ _ _ _ (by first | decide | omega) (by first | decide | omega) _).mono ?_; rintro e w1 ⟨rfl, B1⟩; have HB := Lib.hid (below_step (below_last (Below.refl _ _) _) B1); obtain ⟨q1, hz⟩ := bcell B1; clear B1))
  refine bodyPost_ret (v := fstL (firstF 138 reg m3)) (by simp [results, Try.results13, go_sem, q1, fstL, firstF, isF]) rfl ⟨rfl, ?_⟩
  exact below5 HB.out _ (Nat.le_refl _)
theorem first_139 (reg : Int) (m3 : Bool) (w : World) : Calls Try.prog 13 #[.int .u8 139, .int .i64 reg, .bool m3] w fun e w' => e = .returned (fstL (firstF 139 reg m3)) ∧ Below w.heap.size w w' := by
  go_enter Try.func13, Try.ntmps13
  go_wp2_with (first | (go_at_call 24; refine (size4_any _ (by first | decide | omega) (by first | decide | omega) _).mono ?_; rintro e w' ⟨rfl, rfl⟩) | (go_at_call 25; refine (is_any _ _ _ _ (by first | decide | omega) (by first | decide | omega) _).mono ?_; rintro e w1 ⟨rfl, B1⟩; have HB := Lib.hid (below_step (below_last (Below.refl _ _) _) B1); obtain ⟨q1, hz⟩ := bcell B1; clear B1))
  refine bodyPost_ret (v := fstL (firstF 139 reg m3)) (by simp [results, Try.results13, go_sem, q1, fstL, firstF, isF]) rfl ⟨rfl, ?_⟩
  exact below5 HB.out _ (Nat.le_refl _)
end
section
attribute [local go_sem] isSome_setCell
set_option maxRecDepth 100000
set_option maxHeartbeats 4000000
theorem first_144 (reg : Int) (m3 : Bool) (w : World) : Calls Try.prog 13 #[.int .u8 144, .int .i64 reg, .bool m3] w fun e w' => e = .returned (fstL (firstF 144 reg m3)) ∧ Below w.heap.size w w' := by
  go_enter Try.func13, Try.ntmps13
  go_wp2_with (first | (go_at_call 24; refine (size4_any _ (by first | decide | omega) (by first | decide | omega) _).mono ?_; rintro e w' ⟨rfl, rfl⟩) | (go_at_call 25; refine (is_any _ _ _ _ (by first | decide | omega) (by first | decide | omega) _).mono ?_; rintro e w1 ⟨rfl, B1⟩; have HB := Lib.hid (below_step (below_last (Below.refl _ _) _) B1); obtain ⟨q1, hz⟩ := bcell B1; clear B1))
  refine bodyPost_ret (v := fstL (firstF 144 reg m3)) (by simp [results, Try.results13, go_sem, q1, fstL, firstF, isF]) rfl ⟨rfl, ?_⟩
  exact below5 HB.out _ (Nat.le_refl _)
theorem first_152 (reg : Int) (m3 : Bool) (w : World) : Calls Try.prog 13 #[.int .u8 152, .int .i64 reg, .bool m3] w fun e w' => e = .returned (fstL (firstF 152 reg m3)) ∧ Below w.heap.size w w' := by
  go_enter Try.func13, Try.ntmps13
  go_wp2_with (first | (go_at_call 24; refine (size4_any _ (by first | decide | omega) (by first | decide | omega) _).mono ?_; rintro e w' ⟨rfl, rfl⟩) | (go_at_call 25; refine (is_any _ _ _ _ (by first | decide | omega) (by first | decide | omega) _).mono ?_; rintro e w1 ⟨rfl, B1⟩; have HB := Lib.hid (below_step (below_last (Below.refl _ _) _) B1); obtain ⟨q1, hz⟩ := bcell B1; clear B1))
  refine bodyPost_ret (v := fstL (firstF 152 reg m3)) (by simp [results, Try.results13, go_sem, q1, fstL, firstF, isF]) rfl ⟨rfl, ?_⟩
  exact below5 HB.out _ (Nat.le_refl _)
theorem first_153 (reg : Int) (m3 : Bool) (w : World) : Calls Try.prog 13 #[.int .u8 153, .int .i64 reg, .bool m3] w fun e w' => e = .returned (fstL (firstF 153 reg m3)) ∧ Below w.heap.size w w' := by
  go_enter Try.func13, Try.ntmps13
  go_wp2_with (first | (go_at_call 24; refine (size4_any _ (by first | decide | omega) (by first | decide | omega) _).mono ?_; rintro e w' ⟨rfl, rfl⟩) | (go_at_call 25; refine (is_any _ _ _ _ (by first | decide | omega) (by first | decide | omega) _).mono ?_; rintro e w1 ⟨rfl, B1⟩; have HB := Lib.hid (below_step (below_last (Below.refl _ _) _) B1); obtain ⟨q1, hz⟩ := bcell B1; clear B1))
  refine bodyPost_ret (v := fstL (firstF 153 reg m3)) (by simp [results, Try.results13, go_sem, q1, fstL, firstF, isF]) rfl ⟨rfl, ?_⟩
  exact below5 HB.out _ (Nat.le_refl _)
theorem first_160 (reg : Int) (m3 : Bool) (w : World) : Calls Try.prog 13 #[.int .u8 160, .int .i64 reg, .bool m3] w fun e w' => e = .returned (fstL (firstF 160 reg m3)) ∧ Below w.heap.size w w' := by
  go_enter Try.func13, Try.ntmps13
  go_wp2_with (first | (go_at_call 24; refine (size4_any _ (by first | decide | omega) (by first | decide | omega) _).mono ?_; rintro e w' ⟨rfl, rfl⟩) | (go_at_call 25; refine (is_any _ _ _ _ (by first | decide | omega) (by first | decide | omega) _).mono ?_; rintro e w1 ⟨rfl, B1⟩; have HB := Lib.hid (below_step (below_last (Below.refl _ _) _) B1); obtain ⟨q1, hz⟩ := bcell B1; clear B1))
  refine bodyPost_ret (v := fstL (firstF 160 reg m3)) (by simp [results, Try.results13, go_sem, q1, fstL, firstF, isF]) rfl ⟨rfl, ?_⟩
  exact below5 HB.out _ (Nat.le_refl _)
theorem first_161 (reg : Int) (m3 : Bool) (w : World) : Calls Try.prog 13 #[.int .u8 161, .int .i64 reg, .bool m3] w fun e w' => e = .returned (fstL (firstF 161 reg m3)) ∧ Below w.heap.size w w' := by
  go_enter Try.func13, Try.ntmps13
  go_wp2_with (first | (go_at_call 24; refine (size4_any _ (by first | decide | omega) (by first | decide | omega) _).mono ?_; rintro e w' ⟨rfl, rfl⟩) | (go_at_call 25; refine (is_any _ _ _ _ (by first | decide | omega) (by first | decide | omega) _).mono ?_; rintro e w1 ⟨rfl, B1⟩; have HB := Lib.hid (below_step (below_last (Below.refl _ _) _) B1); obtain ⟨q1, hz⟩ := bcell B1; clear B1))
  refine bodyPost_ret (v := fstL (firstF 161 reg m3)) (by simp [results, Try.results13, go_sem, q1, fstL, firstF, isF]) rfl ⟨rfl, ?_⟩
  exact below5 HB.out _ (Nat.le_refl _)
theorem first_162 (reg : Int) (m3 : Bool) (w : World) : Calls Try.prog 13 #[.int .u8 162, .int .i64 reg, .bool m3] w fun e w' => e = .returned (fstL (firstF 162 reg m3)) ∧ Below w.heap.size w w' := by
  go_enter Try.func13, Try.ntmps13
  go_wp2_with (first | (go_at_call 24; refine (size4_any _ (by first | decide | omega) (by first | decide | omega) _).mono ?_; rintro e w' ⟨rfl, rfl⟩) | (go_at_call 25; refine (is_any _ _ _ _ (by first | decide | omega) (by first | decide | omega) _).mono ?_; rintro e w1 ⟨rfl, B1⟩; have HB := Lib.hid (below_step (below_last (Below.refl _ _) _) B1); obtain ⟨q1, hz⟩ := bcell B1; clear B1))
  refine bodyPost_ret (v := fstL (firstF 162 reg m3)) (by simp [results, Try.results13, go_sem, q1, fstL, firstF, isF]) rfl ⟨rfl, ?_⟩
  exact below5 HB.out _ (Nat.le_refl _)
theorem first_163 (reg : Int) (m3 : Bool) (w : World) : Calls Try.prog 13 #[.int .u8 163, .int .i64 reg, .bool m3] w fun e w' => e = .returned (fstL (firstF 163 reg m3)) ∧ Below w.heap.size w w' := by
  go_enter Try.func13, Try.ntmps13
  go_wp2_with (first | (go_at_call 24; refine (size4_any _ (by first | decide | omega) (by first | decide | omega) _).mono ?_; rintro e w' ⟨rfl, rfl⟩) | (go_at_call 25; refine (is_any _ _ _ _ (by first | decide | omega) (by first | decide | omega) _).mono ?_; rintro e w1 ⟨rfl, B1⟩; have HB := Lib.hid (below_step (below_last (Below.refl _ _) _) B1); obtain ⟨q1, hz⟩ := bcell B1; clear B1))
  refine bodyPost_ret (v := fstL (firstF 163 reg m3)) (by simp [results, Try.results13, go_sem, q1, fstL, firstF, isF]) rfl ⟨rfl, ?_⟩
  exact below5 HB.out _ (Nat.le_refl _)
theorem first_164 (reg : Int) (m3 : Bool) (w : World) : Calls Try.prog 13 #[.int .u8 164, .int .i64 reg, .bool m3] w fun e w' => e = .returned (fstL (firstF 164 reg m3)) ∧ Below w.heap.size w w' := by
  go_enter Try.func13, Try.ntmps13
  go_wp2_with (first | (go_at_call 24; refine (size4_any _ (by first | decide | omega) (by first | decide | omega) _).mono ?_; rintro e w' ⟨rfl, rfl⟩) | (go_at_call 25; refine (is_any _ _ _ _ (by first | decide | omega) (by first | decide | omega) _).mono ?_; rintro e w1 ⟨rfl, B1⟩; have HB := Lib.hid (below_step (below_last (Below.refl _ _) _) B1); obtain ⟨q1, hz⟩ := bcell B1; clear B1))
  refine bodyPost_ret (v := fstL (firstF 164 reg m3)) (by simp [results, Try.results13, go_sem, q1, fstL, firstF, isF]) rfl ⟨rfl, ?_⟩
  exact below5 HB.out _ (Nat.le_refl _)
theorem first_165 (reg : Int) (m3 : Bool) (w : World) : Calls Try.prog 13 #[.int .u8 165, .int .i64 reg, .bool m3] w fun e w' => e = .returned (fstL (firstF 165 reg m3)) ∧ Below w.heap.size w w' := by
  go_enter Try.func13, Try.ntmps13
  go_wp2_with (first | (go_at_call 24; refine (size4_any _ (by first | decide | omega) (by first | decide | omega) _).mono ?_; rintro e w' ⟨rfl, rfl⟩) | (go_at_call 25; refine (is_any _ _ _ _ (by first | decide | omega) (by first | decide | omega) _).mono ?_; rintro e w1 ⟨rfl, B1⟩; have HB := Lib.hid (below_step (below_last (Below.refl _ _) _) B1); obtain ⟨q1, hz⟩ := bcell B1; clear B1))
  refine bodyPost_ret (v := fstL (firstF 165 reg m3)) (by simp [results, Try.results13, go_sem, q1, fstL, firstF, isF]) rfl ⟨rfl, ?_⟩
  exact below5 HB.out _ (Nat.le_refl _)
theorem first_168 (reg : Int) (m3 : Bool) (w : World) : Calls Try.prog 13 #[.int .u8 168, .int .i64 reg, .bool m3] w fun e w' => e = .returned (fstL (firstF 168 reg m3)) ∧ Below w.heap.size w w' := by
  go_enter Try.func13, Try.ntmps13
  go_wp2_with (first | (go_at_call 24; refine (size4_any _ (by first | decide | omega) (by first | decide | omega) _).mono ?_; rintro e w' ⟨rfl, rfl⟩) | (go_at_call 25; refine (is_any _ _ _ _ (by first | decide | omega) (by first | decide | omega) _).mono ?_; rintro e w1 ⟨rfl, B1⟩; have HB := Lib.hid (below_step (below_last (Below.refl _ _) _) B1); obtain ⟨q1, hz⟩ := bcell B1; clear B1))
  refine bodyPost_ret (v := fstL (firstF 168 reg m3)) (by simp [results, Try.results13, go_sem, q1, fstL, firstF, isF]) rfl ⟨rfl, ?_⟩
  exact below5 HB.out _ (Nat.le_refl _)
end
end Go.Proofs.Ytlnahkkemjgjbaa
