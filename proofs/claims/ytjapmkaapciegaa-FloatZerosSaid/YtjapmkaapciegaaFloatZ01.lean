/- A nought of sign 0, an infinity of sign 1. -/
import Derived.Test.YtjapmkaapciegaaFloatZ
namespace Go.Proofs.Ytjapmkaapciegaa
open Go.ChangeShapes Go.WideShapes Go.ChangeAt Go.RowKit
attribute [local go_sem] isSome_setCell fz_x00 fz_x01 fz_x10 fz_x11 fz_xi0 fz_xi1 fz_xn0 fz_xn1 fz_o0 fz_o1
set_option maxRecDepth 100000 in
set_option maxHeartbeats 4000000 in
theorem fzeros_01 (a : Nat) (w : World) (a1 : a < 18446744073709551616) :
    Calls Try.prog 6 #[.int .u64 (a : Int), .bool false, .bool true] w fun e w' => e = .returned (.bool true) ∧ Below w.heap.size w w' := by
  have d1 : ∀ w : World, Calls Try.prog 13 #[.int .i64 53, .int .u64 0, .int .u64 18442240474082181120] w fun e w' => e = .returned (.int .u64 18444492273895866368) ∧ Below w.heap.size w w' := fun w => fdo_lit 53 0 18442240474082181120 18444492273895866368 (by decide) (by decide) (by decide +kernel) w
  have d2 : ∀ w : World, Calls Try.prog 13 #[.int .i64 56, .int .u64 0, .int .u64 0] w fun e w' => e = .returned (.int .u64 18444492273895866368) ∧ Below w.heap.size w w' := fun w => fdo_lit 56 0 0 18444492273895866368 (by decide) (by decide) (by decide +kernel) w
  have d3 : ∀ w : World, Calls Try.prog 13 #[.int .i64 54, .int .u64 18442240474082181120, .int .u64 18442240474082181120] w fun e w' => e = .returned (.int .u64 18444492273895866368) ∧ Below w.heap.size w w' := fun w => fdo_lit 54 18442240474082181120 18442240474082181120 18444492273895866368 (by decide) (by decide) (by decide +kernel) w
  have d4 : ∀ w : World, Calls Try.prog 13 #[.int .i64 56, .int .u64 0, .int .u64 18442240474082181120] w fun e w' => e = .returned (.int .u64 9223372036854775808) ∧ Below w.heap.size w w' := fun w => fdo_lit 56 0 18442240474082181120 9223372036854775808 (by decide) (by decide) (by decide +kernel) w
  have d5 : ∀ w : World, Calls Try.prog 13 #[.int .i64 56, .int .u64 18442240474082181120, .int .u64 0] w fun e w' => e = .returned (.int .u64 18442240474082181120) ∧ Below w.heap.size w w' := fun w => fdo_lit 56 18442240474082181120 0 18442240474082181120 (by decide) (by decide) (by decide +kernel) w
  have hN := fisnan_any a a1
  have hx := fz_abs a a1
  obtain ⟨x, hX'⟩ : ∃ x : Nat, x = a % 9223372036854775808 := ⟨_, rfl⟩
  rw [← hX'] at hx
  have hX := Lib.hid hX'
  clear hX'
  go_enter Try.func6, Try.ntmps6
  go_wp2_with (go_at_call 11; refine (known4_any _).mono ?_; rintro e w0 ⟨rfl, B0⟩)
  go_wp2_with (go_at_call 25; first | ((with_reducible refine (fz_f _).mono ?_); rintro e w' ⟨rfl, rfl⟩) | ((with_reducible refine (fz_t _).mono ?_); rintro e w' ⟨rfl, rfl⟩))
  refine (d1 _).mono ?_
  rintro e w1 ⟨rfl, hb1⟩
  have B1 := B0.trans (hb1.mono B0.size)
  go_wp2_with (go_at_call 25; first | ((with_reducible refine (fz_f _).mono ?_); rintro e w' ⟨rfl, rfl⟩) | ((with_reducible refine (fz_t _).mono ?_); rintro e w' ⟨rfl, rfl⟩))
  refine (d2 _).mono ?_
  rintro e w2 ⟨rfl, hb2⟩
  have B2 := B1.trans (hb2.mono B1.size)
  go_wp2_with (go_at_call 25; first | ((with_reducible refine (fz_f _).mono ?_); rintro e w' ⟨rfl, rfl⟩) | ((with_reducible refine (fz_t _).mono ?_); rintro e w' ⟨rfl, rfl⟩))
  refine (d3 _).mono ?_
  rintro e w3 ⟨rfl, hb3⟩
  have B3 := B2.trans (hb3.mono B2.size)
  go_wp2_with (go_at_call 25; first | ((with_reducible refine (fz_f _).mono ?_); rintro e w' ⟨rfl, rfl⟩) | ((with_reducible refine (fz_t _).mono ?_); rintro e w' ⟨rfl, rfl⟩))
  refine (d4 _).mono ?_
  rintro e w4 ⟨rfl, hb4⟩
  have B4 := B3.trans (hb4.mono B3.size)
  go_wp2_with (go_at_call 25; first | ((with_reducible refine (fz_f _).mono ?_); rintro e w' ⟨rfl, rfl⟩) | ((with_reducible refine (fz_t _).mono ?_); rintro e w' ⟨rfl, rfl⟩))
  refine (d5 _).mono ?_
  rintro e w5 ⟨rfl, hb5⟩
  have B5 := B4.trans (hb5.mono B4.size)
  go_wp2_with (go_at_call 25; first | ((with_reducible refine (fz_f _).mono ?_); rintro e w' ⟨rfl, rfl⟩) | ((with_reducible refine (fz_t _).mono ?_); rintro e w' ⟨rfl, rfl⟩))
  clear d1 d2 d3 d4 d5 hx hb1 hb2 hb3 hb4 hb5 B0 B1 B2 B3 B4
  refine (hN _).mono ?_
  rintro e w6 ⟨rfl, hb6⟩
  have B6 := B5.trans (hb6.mono B5.size)
  clear hN hb6 B5
  cases na : nanB a with
  | true =>
    go_wp2_with fail
    go_ret
    exact ⟨rfl, B6⟩
  | false =>
    by_cases h0 : x = 0
    · have x0 : ((x : Int) == 0) = true := by rw [beq_iff_eq]; omega
      clear h0
      go_wp2_with fail
      go_ret
      exact ⟨rfl, B6⟩
    by_cases hi : x = 9218868437227405312
    · have x0 : ((x : Int) == 0) = false := by rw [beq_eq_false_iff_ne]; omega
      have x1 : ((x : Int) == 9218868437227405312) = true := by rw [beq_iff_eq]; omega
      clear hi h0
      go_wp2_with fail
      go_ret
      exact ⟨rfl, B6⟩
    obtain ⟨g1, g2⟩ := num_z a 0 false na (by rw [← hX.out]; exact h0) (by rw [← hX.out]; exact hi) z_zero (by decide +kernel)
    have g3 := num_i a 18442240474082181120 true na (by rw [← hX.out]; exact hi) z_ninf (by decide +kernel)
    have g4 := num_self a na (by rw [← hX.out]; exact hi)
    have x0 : ((x : Int) == 0) = false := by rw [beq_eq_false_iff_ne]; omega
    have x1 : ((x : Int) == 9218868437227405312) = false := by rw [beq_eq_false_iff_ne]; omega
    have hs := fz_bit a a1
    clear h0 hi na hX
    cases hsa : (a / 9223372036854775808 % 2 == 1)
    all_goals
      rw [hsa] at g1 g2 hs
      simp only [Bool.false_eq_true, if_false, if_true] at hs
      clear hsa
    · have e1 : ∀ w : World, Calls Try.prog 13 #[.int .i64 56, .int .u64 (a : Int), .int .u64 0] w fun e w' => e = .returned (.int .u64 9218868437227405312) ∧ Below w.heap.size w w' := fun w => fdo_lit 56 a 0 9218868437227405312 a1 (by decide) (g1.trans (by decide)) w
      have e2 : ∀ w : World, Calls Try.prog 13 #[.int .i64 52, .int .u64 (a : Int), .int .u64 18442240474082181120] w fun e w' => e = .returned (.int .u64 18442240474082181120) ∧ Below w.heap.size w w' := fun w => fdo_lit 52 a 18442240474082181120 18442240474082181120 a1 (by decide) (g3.trans (by decide)) w
      have e3 : ∀ w : World, Calls Try.prog 13 #[.int .i64 54, .int .u64 (a : Int), .int .u64 (a : Int)] w fun e w' => e = .returned (.int .u64 0) ∧ Below w.heap.size w w' := fun w => fdo_lit 54 a a 0 a1 a1 g4 w
      have e4 : ∀ w : World, Calls Try.prog 13 #[.int .i64 53, .int .u64 (a : Int), .int .u64 0] w fun e w' => e = .returned (.int .u64 0) ∧ Below w.heap.size w w' := fun w => fdo_lit 53 a 0 0 a1 (by decide) (g2.trans (by decide)) w
      clear g1 g2 g3 g4
      go_wp2_with fail
      refine (e1 _).mono ?_
      rintro e w7 ⟨rfl, hb7⟩
      have B7 := B6.trans (hb7.mono B6.size)
      go_wp2_with (go_at_call 25; first | ((with_reducible refine (fz_f _).mono ?_); rintro e w' ⟨rfl, rfl⟩) | ((with_reducible refine (fz_t _).mono ?_); rintro e w' ⟨rfl, rfl⟩))
      refine (e2 _).mono ?_
      rintro e w8 ⟨rfl, hb8⟩
      have B8 := B7.trans (hb8.mono B7.size)
      go_wp2_with (go_at_call 25; first | ((with_reducible refine (fz_f _).mono ?_); rintro e w' ⟨rfl, rfl⟩) | ((with_reducible refine (fz_t _).mono ?_); rintro e w' ⟨rfl, rfl⟩))
      refine (e3 _).mono ?_
      rintro e w9 ⟨rfl, hb9⟩
      have B9 := B8.trans (hb9.mono B8.size)
      go_wp2_with (go_at_call 25; first | ((with_reducible refine (fz_f _).mono ?_); rintro e w' ⟨rfl, rfl⟩) | ((with_reducible refine (fz_t _).mono ?_); rintro e w' ⟨rfl, rfl⟩))
      refine (e4 _).mono ?_
      rintro e w10 ⟨rfl, hb10⟩
      have B10 := B9.trans (hb10.mono B9.size)
      go_wp2_with (go_at_call 25; first | ((with_reducible refine (fz_f _).mono ?_); rintro e w' ⟨rfl, rfl⟩) | ((with_reducible refine (fz_t _).mono ?_); rintro e w' ⟨rfl, rfl⟩))
      go_ret
      exact ⟨rfl, B10⟩
    · have e1 : ∀ w : World, Calls Try.prog 13 #[.int .i64 56, .int .u64 (a : Int), .int .u64 0] w fun e w' => e = .returned (.int .u64 18442240474082181120) ∧ Below w.heap.size w w' := fun w => fdo_lit 56 a 0 18442240474082181120 a1 (by decide) (g1.trans (by decide)) w
      have e2 : ∀ w : World, Calls Try.prog 13 #[.int .i64 52, .int .u64 (a : Int), .int .u64 18442240474082181120] w fun e w' => e = .returned (.int .u64 18442240474082181120) ∧ Below w.heap.size w w' := fun w => fdo_lit 52 a 18442240474082181120 18442240474082181120 a1 (by decide) (g3.trans (by decide)) w
      have e3 : ∀ w : World, Calls Try.prog 13 #[.int .i64 54, .int .u64 (a : Int), .int .u64 (a : Int)] w fun e w' => e = .returned (.int .u64 0) ∧ Below w.heap.size w w' := fun w => fdo_lit 54 a a 0 a1 a1 g4 w
      have e4 : ∀ w : World, Calls Try.prog 13 #[.int .i64 53, .int .u64 (a : Int), .int .u64 0] w fun e w' => e = .returned (.int .u64 9223372036854775808) ∧ Below w.heap.size w w' := fun w => fdo_lit 53 a 0 9223372036854775808 a1 (by decide) (g2.trans (by decide)) w
      clear g1 g2 g3 g4
      go_wp2_with fail
      refine (e1 _).mono ?_
      rintro e w7 ⟨rfl, hb7⟩
      have B7 := B6.trans (hb7.mono B6.size)
      go_wp2_with (go_at_call 25; first | ((with_reducible refine (fz_f _).mono ?_); rintro e w' ⟨rfl, rfl⟩) | ((with_reducible refine (fz_t _).mono ?_); rintro e w' ⟨rfl, rfl⟩))
      refine (e2 _).mono ?_
      rintro e w8 ⟨rfl, hb8⟩
      have B8 := B7.trans (hb8.mono B7.size)
      go_wp2_with (go_at_call 25; first | ((with_reducible refine (fz_f _).mono ?_); rintro e w' ⟨rfl, rfl⟩) | ((with_reducible refine (fz_t _).mono ?_); rintro e w' ⟨rfl, rfl⟩))
      refine (e3 _).mono ?_
      rintro e w9 ⟨rfl, hb9⟩
      have B9 := B8.trans (hb9.mono B8.size)
      go_wp2_with (go_at_call 25; first | ((with_reducible refine (fz_f _).mono ?_); rintro e w' ⟨rfl, rfl⟩) | ((with_reducible refine (fz_t _).mono ?_); rintro e w' ⟨rfl, rfl⟩))
      refine (e4 _).mono ?_
      rintro e w10 ⟨rfl, hb10⟩
      have B10 := B9.trans (hb10.mono B9.size)
      go_wp2_with (go_at_call 25; first | ((with_reducible refine (fz_f _).mono ?_); rintro e w' ⟨rfl, rfl⟩) | ((with_reducible refine (fz_t _).mono ?_); rintro e w' ⟨rfl, rfl⟩))
      go_ret
      exact ⟨rfl, B10⟩
end Go.Proofs.Ytjapmkaapciegaa
