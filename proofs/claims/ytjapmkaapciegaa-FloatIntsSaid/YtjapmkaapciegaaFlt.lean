/- What package flt answers, for every input, in words on numbers alone. -/
import Derived.Test.YtjapmkaapciegaaRef4
namespace Go.Proofs.Ytjapmkaapciegaa
open Go.ChangeShapes Go.WideShapes Go.ChangeAt Go.RowKit

theorem andnot_sign (a : Nat) (a1 : a < 18446744073709551616) : bits .andNot .u64 (a : Int) 9223372036854775808 = ((a % 9223372036854775808 : Nat) : Int) := by
  rw [show (9223372036854775808 : Int) = ((9223372036854775808 : Nat) : Int) from rfl, u64_andNot_nat a 9223372036854775808 a1 (by decide)]
  rw [show 18446744073709551615 - 9223372036854775808 = 2 ^ 63 - 1 from rfl, Nat.and_two_pow_sub_one_eq_mod]
theorem fisnan_same (a : Nat) (h1 : a < 18446744073709551616) (w : World) : Calls Try.prog 19 #[.int .u64 (a : Int)] w fun e w' => e = .returned (.bool (nanB a)) ∧ w = w' := by
  have e1 := andnot_sign a h1
  have hN := Lib.hid (show nanB a = decide ((9218868437227405312 : Int) < ((a % 9223372036854775808 : Nat) : Int)) by unfold nanB; rw [decide_eq_decide]; omega)
  generalize a % 9223372036854775808 = q at *
  go_enter Try.func19, Try.ntmps19
  go_wp2
  go_ret
  exact ⟨by rw [hN.out]; rfl, rfl⟩
theorem fquiet_same (a : Nat) (h1 : a < 18446744073709551616) (w : World) : Calls Try.prog 21 #[.int .u64 (a : Int)] w fun e w' => e = .returned (.int .u64 (quietN a : Nat)) ∧ w = w' := by
  have e1 := quiet_or a h1
  by_cases h : nanB a = true
  · have hQ := Lib.hid (show quietN a = a ||| 2251799813685248 by unfold quietN; rw [if_pos h])
    generalize a ||| 2251799813685248 = q at *
    go_enter Try.func21, Try.ntmps21
    go_wp2_with (go_at_call 19; refine (fisnan_same _ h1 _).mono ?_; rintro e w' ⟨rfl, rfl⟩)
    go_ret
    exact ⟨by rw [hQ.out]; rfl, rfl⟩
  · have h' : nanB a = false := by simpa using h
    have hQ := Lib.hid (show quietN a = a by unfold quietN; rw [if_neg h])
    clear h e1
    go_enter Try.func21, Try.ntmps21
    go_wp2_with (go_at_call 19; refine (fisnan_same _ h1 _).mono ?_; rintro e w' ⟨rfl, rfl⟩)
    go_ret
    exact ⟨by rw [hQ.out]; rfl, rfl⟩
attribute [local go_sem] m_frombits m_bits
theorem fdouble_any (a : Nat) (w : World) : Calls Try.prog 26 #[.int .u64 (a : Int)] w fun e w' => e = .returned (.float .f64 a) ∧ w = w' := by
  go_enter Try.func26, Try.ntmps26
  go_wp2
  go_ret
  exact ⟨rfl, rfl⟩
theorem fchosen_any (a b : Nat) (c : Bool) (w : World) : Calls Try.prog 29 #[.int .u64 (a : Int), .int .u64 (b : Int), .bool c] w fun e w' => e = .returned (.int .u64 ((if c then a else b : Nat) : Int)) ∧ w = w' := by
  cases c
  all_goals
    go_enter Try.func29, Try.ntmps29
    go_wp2
    go_ret
    exact ⟨rfl, rfl⟩
def reckN (a b r : Nat) : Nat := if nanB a then quietN a else if nanB b then quietN b else if nanB r then plainN else r
theorem freckoned_any (a b r : Nat) (h1 : a < 18446744073709551616) (k1 : b < 18446744073709551616) (l1 : r < 18446744073709551616) (w : World) : Calls Try.prog 27 #[.int .u64 (a : Int), .int .u64 (b : Int), .float .f64 r] w fun e w' => e = .returned (.int .u64 (reckN a b r : Nat)) ∧ w = w' := by
  by_cases na : nanB a = true
  · have hV := Lib.hid (show reckN a b r = quietN a by unfold reckN; rw [if_pos na])
    go_enter Try.func27, Try.ntmps27
    go_wp2_with (first | (go_at_call 19; first | ((with_reducible refine (fisnan_same a h1 _).mono ?_); rintro e w' ⟨rfl, rfl⟩) | ((with_reducible refine (fisnan_same b k1 _).mono ?_); rintro e w' ⟨rfl, rfl⟩) | ((with_reducible refine (fisnan_same r l1 _).mono ?_); rintro e w' ⟨rfl, rfl⟩)) | (go_at_call 21; first | ((with_reducible refine (fquiet_same a h1 _).mono ?_); rintro e w' ⟨rfl, rfl⟩) | ((with_reducible refine (fquiet_same b k1 _).mono ?_); rintro e w' ⟨rfl, rfl⟩)))
    go_ret
    exact ⟨by rw [hV.out]; rfl, rfl⟩
  have na' : nanB a = false := by simpa using na
  clear na
  by_cases nb : nanB b = true
  · have hV := Lib.hid (show reckN a b r = quietN b by unfold reckN; rw [na', nb]; rfl)
    go_enter Try.func27, Try.ntmps27
    go_wp2_with (first | (go_at_call 19; first | ((with_reducible refine (fisnan_same a h1 _).mono ?_); rintro e w' ⟨rfl, rfl⟩) | ((with_reducible refine (fisnan_same b k1 _).mono ?_); rintro e w' ⟨rfl, rfl⟩) | ((with_reducible refine (fisnan_same r l1 _).mono ?_); rintro e w' ⟨rfl, rfl⟩)) | (go_at_call 21; first | ((with_reducible refine (fquiet_same a h1 _).mono ?_); rintro e w' ⟨rfl, rfl⟩) | ((with_reducible refine (fquiet_same b k1 _).mono ?_); rintro e w' ⟨rfl, rfl⟩)))
    go_ret
    exact ⟨by rw [hV.out]; rfl, rfl⟩
  have nb' : nanB b = false := by simpa using nb
  clear nb
  by_cases nr : nanB r = true
  · have hV := Lib.hid (show reckN a b r = plainN by unfold reckN; rw [na', nb', nr]; rfl)
    go_enter Try.func27, Try.ntmps27
    go_wp2_with (first | (go_at_call 19; first | ((with_reducible refine (fisnan_same a h1 _).mono ?_); rintro e w' ⟨rfl, rfl⟩) | ((with_reducible refine (fisnan_same b k1 _).mono ?_); rintro e w' ⟨rfl, rfl⟩) | ((with_reducible refine (fisnan_same r l1 _).mono ?_); rintro e w' ⟨rfl, rfl⟩)) | (go_at_call 21; first | ((with_reducible refine (fquiet_same a h1 _).mono ?_); rintro e w' ⟨rfl, rfl⟩) | ((with_reducible refine (fquiet_same b k1 _).mono ?_); rintro e w' ⟨rfl, rfl⟩)))
    go_ret
    exact ⟨by rw [hV.out]; rfl, rfl⟩
  · have nr' : nanB r = false := by simpa using nr
    have hV := Lib.hid (show reckN a b r = r by unfold reckN; rw [na', nb', nr']; rfl)
    clear nr
    go_enter Try.func27, Try.ntmps27
    go_wp2_with (first | (go_at_call 19; first | ((with_reducible refine (fisnan_same a h1 _).mono ?_); rintro e w' ⟨rfl, rfl⟩) | ((with_reducible refine (fisnan_same b k1 _).mono ?_); rintro e w' ⟨rfl, rfl⟩) | ((with_reducible refine (fisnan_same r l1 _).mono ?_); rintro e w' ⟨rfl, rfl⟩)) | (go_at_call 21; first | ((with_reducible refine (fquiet_same a h1 _).mono ?_); rintro e w' ⟨rfl, rfl⟩) | ((with_reducible refine (fquiet_same b k1 _).mono ?_); rintro e w' ⟨rfl, rfl⟩)))
    go_ret
    exact ⟨by rw [hV.out]; rfl, rfl⟩
theorem reck_some (op : BinOp) (a b r : Nat) (hf : floatBits op .f64 a b = some r) : reckN a b r = arithN op a b := by
  unfold reckN arithN; rw [hf, fbits_nan hf]; rfl
theorem reck_none (op : BinOp) (a b r : Nat) (hf : floatBits op .f64 a b = none) (hr : nanB r = true) : reckN a b r = arithN op a b := by
  unfold reckN arithN; rw [hf, hr]; rfl
theorem sqrt_lt64 {b r : Nat} (hf : Ieee.double.sqrt b = some r) : r < 18446744073709551616 := Ieee.double.sqrt_lt hf
theorem lt_add {a b r : Nat} (hf : floatBits .add .f64 a b = some r) : r < 18446744073709551616 := Ieee.double.add_lt ((fb_add a b).symm.trans hf)
theorem lt_sub {a b r : Nat} (hf : floatBits .sub .f64 a b = some r) : r < 18446744073709551616 := Ieee.double.sub_lt ((fb_sub a b).symm.trans hf)
theorem lt_mul {a b r : Nat} (hf : floatBits .mul .f64 a b = some r) : r < 18446744073709551616 := Ieee.double.mul_lt ((fb_mul a b).symm.trans hf)
theorem lt_quo {a b r : Nat} (hf : floatBits .quo .f64 a b = some r) : r < 18446744073709551616 := Ieee.double.div_lt ((fb_quo a b).symm.trans hf)
theorem fsame {w w' : World} {e : Ending} {v : Value} (h : e = .returned v ∧ w = w') : e = .returned v ∧ Below w.heap.size w w' := by
  obtain ⟨h, rfl⟩ := h; exact ⟨h, below_same w⟩
set_option maxHeartbeats 1000000 in
theorem faddd (a b : Nat) (h1 : a < 18446744073709551616) (k1 : b < 18446744073709551616) (w : World) : Calls Try.prog 13 #[.int .i64 52, .int .u64 (a : Int), .int .u64 (b : Int)] w fun e w' => e = .returned (.int .u64 (arithN .add a b : Nat)) ∧ Below w.heap.size w w' := by
  cases hf : floatBits .add .f64 a b with
  | some r =>
    have hV := Lib.hid (reck_some .add a b r hf)
    have hA := fun w : World => run_float_arith (P := Try.prog) w .add 47 .f64 a b r hf
    have l1 := lt_add hf
    clear hf
    go_enter Try.func13, Try.ntmps13
    go_wp2_with (first | (go_at_call 26; first | ((with_reducible refine (fdouble_any a _).mono ?_); rintro e w' ⟨rfl, rfl⟩) | ((with_reducible refine (fdouble_any b _).mono ?_); rintro e w' ⟨rfl, rfl⟩)) | (go_at_call 27; (with_reducible refine (freckoned_any a b r h1 k1 l1 _).mono ?_); rintro e w' ⟨rfl, rfl⟩))
    go_ret
    exact ⟨by rw [← hV.out]; rfl, below_same w⟩
  | none =>
    obtain ⟨r, hr, l1, hA⟩ := m_arith_none .add 47 a b (by decide) hf w
    have hV := Lib.hid (reck_none .add a b r hf hr)
    clear hf hr
    go_enter Try.func13, Try.ntmps13
    go_wp2_with (first | (go_at_call 26; first | ((with_reducible refine (fdouble_any a _).mono ?_); rintro e w' ⟨rfl, rfl⟩) | ((with_reducible refine (fdouble_any b _).mono ?_); rintro e w' ⟨rfl, rfl⟩)) | (go_at_call 27; (with_reducible refine (freckoned_any a b r h1 k1 l1 _).mono ?_); rintro e w' ⟨rfl, rfl⟩))
    go_ret
    exact ⟨by rw [← hV.out]; rfl, below_drawn w⟩
set_option maxHeartbeats 1000000 in
theorem fmuld (a b : Nat) (h1 : a < 18446744073709551616) (k1 : b < 18446744073709551616) (w : World) : Calls Try.prog 13 #[.int .i64 53, .int .u64 (a : Int), .int .u64 (b : Int)] w fun e w' => e = .returned (.int .u64 (arithN .mul a b : Nat)) ∧ Below w.heap.size w w' := by
  cases hf : floatBits .mul .f64 a b with
  | some r =>
    have hV := Lib.hid (reck_some .mul a b r hf)
    have hA := fun w : World => run_float_arith (P := Try.prog) w .mul 47 .f64 a b r hf
    have l1 := lt_mul hf
    clear hf
    go_enter Try.func13, Try.ntmps13
    go_wp2_with (first | (go_at_call 26; first | ((with_reducible refine (fdouble_any a _).mono ?_); rintro e w' ⟨rfl, rfl⟩) | ((with_reducible refine (fdouble_any b _).mono ?_); rintro e w' ⟨rfl, rfl⟩)) | (go_at_call 27; (with_reducible refine (freckoned_any a b r h1 k1 l1 _).mono ?_); rintro e w' ⟨rfl, rfl⟩))
    go_ret
    exact ⟨by rw [← hV.out]; rfl, below_same w⟩
  | none =>
    obtain ⟨r, hr, l1, hA⟩ := m_arith_none .mul 47 a b (by decide) hf w
    have hV := Lib.hid (reck_none .mul a b r hf hr)
    clear hf hr
    go_enter Try.func13, Try.ntmps13
    go_wp2_with (first | (go_at_call 26; first | ((with_reducible refine (fdouble_any a _).mono ?_); rintro e w' ⟨rfl, rfl⟩) | ((with_reducible refine (fdouble_any b _).mono ?_); rintro e w' ⟨rfl, rfl⟩)) | (go_at_call 27; (with_reducible refine (freckoned_any a b r h1 k1 l1 _).mono ?_); rintro e w' ⟨rfl, rfl⟩))
    go_ret
    exact ⟨by rw [← hV.out]; rfl, below_drawn w⟩
set_option maxHeartbeats 1000000 in
theorem fsubd (a b : Nat) (h1 : a < 18446744073709551616) (k1 : b < 18446744073709551616) (w : World) : Calls Try.prog 13 #[.int .i64 54, .int .u64 (a : Int), .int .u64 (b : Int)] w fun e w' => e = .returned (.int .u64 (arithN .sub a b : Nat)) ∧ Below w.heap.size w w' := by
  cases hf : floatBits .sub .f64 a b with
  | some r =>
    have hV := Lib.hid (reck_some .sub a b r hf)
    have hA := fun w : World => run_float_arith (P := Try.prog) w .sub 47 .f64 a b r hf
    have l1 := lt_sub hf
    clear hf
    go_enter Try.func13, Try.ntmps13
    go_wp2_with (first | (go_at_call 26; first | ((with_reducible refine (fdouble_any a _).mono ?_); rintro e w' ⟨rfl, rfl⟩) | ((with_reducible refine (fdouble_any b _).mono ?_); rintro e w' ⟨rfl, rfl⟩)) | (go_at_call 27; (with_reducible refine (freckoned_any a b r h1 k1 l1 _).mono ?_); rintro e w' ⟨rfl, rfl⟩))
    go_ret
    exact ⟨by rw [← hV.out]; rfl, below_same w⟩
  | none =>
    obtain ⟨r, hr, l1, hA⟩ := m_arith_none .sub 47 a b (by decide) hf w
    have hV := Lib.hid (reck_none .sub a b r hf hr)
    clear hf hr
    go_enter Try.func13, Try.ntmps13
    go_wp2_with (first | (go_at_call 26; first | ((with_reducible refine (fdouble_any a _).mono ?_); rintro e w' ⟨rfl, rfl⟩) | ((with_reducible refine (fdouble_any b _).mono ?_); rintro e w' ⟨rfl, rfl⟩)) | (go_at_call 27; (with_reducible refine (freckoned_any a b r h1 k1 l1 _).mono ?_); rintro e w' ⟨rfl, rfl⟩))
    go_ret
    exact ⟨by rw [← hV.out]; rfl, below_drawn w⟩
set_option maxHeartbeats 1000000 in
theorem fquod (a b : Nat) (h1 : a < 18446744073709551616) (k1 : b < 18446744073709551616) (w : World) : Calls Try.prog 13 #[.int .i64 56, .int .u64 (a : Int), .int .u64 (b : Int)] w fun e w' => e = .returned (.int .u64 (arithN .quo a b : Nat)) ∧ Below w.heap.size w w' := by
  cases hf : floatBits .quo .f64 a b with
  | some r =>
    have hV := Lib.hid (reck_some .quo a b r hf)
    have hA := fun w : World => run_float_arith (P := Try.prog) w .quo 47 .f64 a b r hf
    have l1 := lt_quo hf
    clear hf
    go_enter Try.func13, Try.ntmps13
    go_wp2_with (first | (go_at_call 26; first | ((with_reducible refine (fdouble_any a _).mono ?_); rintro e w' ⟨rfl, rfl⟩) | ((with_reducible refine (fdouble_any b _).mono ?_); rintro e w' ⟨rfl, rfl⟩)) | (go_at_call 27; (with_reducible refine (freckoned_any a b r h1 k1 l1 _).mono ?_); rintro e w' ⟨rfl, rfl⟩))
    go_ret
    exact ⟨by rw [← hV.out]; rfl, below_same w⟩
  | none =>
    obtain ⟨r, hr, l1, hA⟩ := m_arith_none .quo 47 a b (by decide) hf w
    have hV := Lib.hid (reck_none .quo a b r hf hr)
    clear hf hr
    go_enter Try.func13, Try.ntmps13
    go_wp2_with (first | (go_at_call 26; first | ((with_reducible refine (fdouble_any a _).mono ?_); rintro e w' ⟨rfl, rfl⟩) | ((with_reducible refine (fdouble_any b _).mono ?_); rintro e w' ⟨rfl, rfl⟩)) | (go_at_call 27; (with_reducible refine (freckoned_any a b r h1 k1 l1 _).mono ?_); rintro e w' ⟨rfl, rfl⟩))
    go_ret
    exact ⟨by rw [← hV.out]; rfl, below_drawn w⟩
theorem fmind (a b : Nat) (w : World) : Calls Try.prog 13 #[.int .i64 55, .int .u64 (a : Int), .int .u64 (b : Int)] w fun e w' => e = .returned (.int .u64 (minN a b : Nat)) ∧ Below w.heap.size w w' := by
  have hV := Lib.hid (show minN a b = if (Ieee.double.order a b == some .lt) then a else b by unfold minN; cases Ieee.double.order a b with | none => rfl | some o => cases o <;> rfl)
  have hO : ∃ o, FloatKind.f64.format.order a b = o ∧ Ieee.double.order a b = o := ⟨_, rfl, rfl⟩
  obtain ⟨o, hF, hO⟩ := hO
  rw [hO] at hV
  clear hO
  rcases o with _ | _ | _ | _
  all_goals
    go_enter Try.func13, Try.ntmps13
    go_wp2_with (first | (go_at_call 26; first | ((with_reducible refine (fdouble_any a _).mono ?_); rintro e w' ⟨rfl, rfl⟩) | ((with_reducible refine (fdouble_any b _).mono ?_); rintro e w' ⟨rfl, rfl⟩)) | (go_at_call 29; (with_reducible refine (fchosen_any a b _ _).mono ?_); rintro e w' ⟨rfl, rfl⟩))
    go_ret
    exact ⟨by rw [hV.out]; rfl, below_same w⟩
theorem fmaxd (a b : Nat) (w : World) : Calls Try.prog 13 #[.int .i64 57, .int .u64 (a : Int), .int .u64 (b : Int)] w fun e w' => e = .returned (.int .u64 (maxN a b : Nat)) ∧ Below w.heap.size w w' := by
  have hV := Lib.hid (show maxN a b = if (Ieee.double.order a b == some .gt) then a else b by unfold maxN; cases Ieee.double.order a b with | none => rfl | some o => cases o <;> rfl)
  have hO : ∃ o, FloatKind.f64.format.order a b = o ∧ Ieee.double.order a b = o := ⟨_, rfl, rfl⟩
  obtain ⟨o, hF, hO⟩ := hO
  rw [hO] at hV
  clear hO
  rcases o with _ | _ | _ | _
  all_goals
    go_enter Try.func13, Try.ntmps13
    go_wp2_with (first | (go_at_call 26; first | ((with_reducible refine (fdouble_any a _).mono ?_); rintro e w' ⟨rfl, rfl⟩) | ((with_reducible refine (fdouble_any b _).mono ?_); rintro e w' ⟨rfl, rfl⟩)) | (go_at_call 29; (with_reducible refine (fchosen_any a b _ _).mono ?_); rintro e w' ⟨rfl, rfl⟩))
    go_ret
    exact ⟨by rw [hV.out]; rfl, below_same w⟩
theorem fmovd (a b : Nat) (w : World) : Calls Try.prog 13 #[.int .i64 51, .int .u64 (a : Int), .int .u64 (b : Int)] w fun e w' => e = .returned (.int .u64 (b : Int)) ∧ Below w.heap.size w w' := by
  go_enter Try.func13, Try.ntmps13
  go_wp2_with (go_at_call 26; first | ((with_reducible refine (fdouble_any a _).mono ?_); rintro e w' ⟨rfl, rfl⟩) | ((with_reducible refine (fdouble_any b _).mono ?_); rintro e w' ⟨rfl, rfl⟩))
  go_ret
  exact ⟨rfl, below_same w⟩
theorem fother (op : Int) (a b : Nat) (h51 : (op == 51) = false) (h52 : (op == 52) = false) (h53 : (op == 53) = false) (h54 : (op == 54) = false) (h55 : (op == 55) = false) (h56 : (op == 56) = false) (h57 : (op == 57) = false) (h58 : (op == 58) = false) (w : World) :
    Calls Try.prog 13 #[.int .i64 op, .int .u64 (a : Int), .int .u64 (b : Int)] w fun e w' => e = .returned (.int .u64 (a : Int)) ∧ Below w.heap.size w w' := by
  go_enter Try.func13, Try.ntmps13
  go_wp2_with (go_at_call 26; first | ((with_reducible refine (fdouble_any a _).mono ?_); rintro e w' ⟨rfl, rfl⟩) | ((with_reducible refine (fdouble_any b _).mono ?_); rintro e w' ⟨rfl, rfl⟩))
  go_ret
  exact ⟨rfl, below_same w⟩
theorem root_some (b r : Nat) (h : Ieee.double.sqrt b = some r) : reckN b b r = rootN b := by
  unfold reckN rootN; rw [h, fsqrt_nan h]; cases nanB b <;> rfl
theorem root_none (b r : Nat) (h : Ieee.double.sqrt b = none) (hr : nanB r = true) : reckN b b r = rootN b := by
  unfold reckN rootN; rw [h, hr]; cases nanB b <;> rfl
set_option maxHeartbeats 1000000 in
theorem fsqrtd (a b : Nat) (k1 : b < 18446744073709551616) (w : World) : Calls Try.prog 13 #[.int .i64 58, .int .u64 (a : Int), .int .u64 (b : Int)] w fun e w' => e = .returned (.int .u64 (rootN b : Nat)) ∧ Below w.heap.size w w' := by
  cases hf : Ieee.double.sqrt b with
  | some r =>
    have hV := Lib.hid (root_some b r hf)
    have hS := msqrt_some b r hf
    have l1 := sqrt_lt64 hf
    clear hf
    go_enter Try.func13, Try.ntmps13
    go_wp2_with (first | (go_at_call 26; first | ((with_reducible refine (fdouble_any a _).mono ?_); rintro e w' ⟨rfl, rfl⟩) | ((with_reducible refine (fdouble_any b _).mono ?_); rintro e w' ⟨rfl, rfl⟩)) | (go_at_call 28; refine (hS _).mono ?_; rintro e w' ⟨rfl, rfl⟩) | (go_at_call 27; (with_reducible refine (freckoned_any b b r k1 k1 l1 _).mono ?_); rintro e w' ⟨rfl, rfl⟩))
    go_ret
    exact ⟨by rw [← hV.out]; rfl, below_same w⟩
  | none =>
    have hS := msqrt_none b hf
    have hR := root_none b
    have hf' := Lib.hid hf
    clear hf
    go_enter Try.func13, Try.ntmps13
    go_wp2_with (go_at_call 26; first | ((with_reducible refine (fdouble_any a _).mono ?_); rintro e w' ⟨rfl, rfl⟩) | ((with_reducible refine (fdouble_any b _).mono ?_); rintro e w' ⟨rfl, rfl⟩))
    go_wp2_with fail
    refine (hS _).mono ?_
    rintro e w' ⟨r, hr, l1, rfl, rfl⟩
    have hV := Lib.hid (hR r hf'.out hr)
    clear hr hR
    go_wp2_with (go_at_call 27; (with_reducible refine (freckoned_any b b r k1 k1 l1 _).mono ?_); rintro e w' ⟨rfl, rfl⟩)
    go_ret
    exact ⟨by rw [← hV.out]; rfl, below_drawn w⟩
theorem fdo_any (op : Int) (a b : Nat) (h1 : a < 18446744073709551616) (k1 : b < 18446744073709551616) (w : World) : Calls Try.prog 13 #[.int .i64 op, .int .u64 (a : Int), .int .u64 (b : Int)] w fun e w' => e = .returned (.int .u64 (fltN op a b : Nat)) ∧ Below w.heap.size w w' := by
  unfold fltN
  by_cases e51 : op = 51
  · subst e51; exact fmovd a b w
  by_cases e52 : op = 52
  · subst e52; exact faddd a b h1 k1 w
  by_cases e53 : op = 53
  · subst e53; exact fmuld a b h1 k1 w
  by_cases e54 : op = 54
  · subst e54; exact fsubd a b h1 k1 w
  by_cases e55 : op = 55
  · subst e55; exact fmind a b w
  by_cases e56 : op = 56
  · subst e56; exact fquod a b h1 k1 w
  by_cases e57 : op = 57
  · subst e57; exact fmaxd a b w
  by_cases e58 : op = 58
  · subst e58; exact fsqrtd a b k1 w
  rw [if_neg e51, if_neg e52, if_neg e53, if_neg e54, if_neg e55, if_neg e56, if_neg e57, if_neg e58]
  exact fother op a b (by simpa using e51) (by simpa using e52) (by simpa using e53) (by simpa using e54) (by simpa using e55) (by simpa using e56) (by simpa using e57) (by simpa using e58) w
set_option maxHeartbeats 1000000 in
theorem fcompare_any (a b : Nat) (_ : a < 18446744073709551616) (_ : b < 18446744073709551616) (w : World) : Calls Try.prog 15 #[.int .u64 (a : Int), .int .u64 (b : Int)] w fun e w' =>
   e = .returned (.agg #[.bool (cmpC a b), .bool (cmpP a b), .bool (cmpZ a b), .bool false, .bool false, .bool false]) ∧ Below w.heap.size w w' := by
  have fin : ∀ o, Ieee.double.order a b = o → cmpC a b = (o == none || o == some .lt) ∧ cmpP a b = (o == none) ∧ cmpZ a b = (o == none || o == some .eq) := by
    intro o h; unfold cmpC cmpP cmpZ; rw [h]; exact ⟨rfl, rfl, rfl⟩
  obtain ⟨o, ho⟩ : ∃ o, Ieee.double.order a b = o := ⟨_, rfl⟩
  obtain ⟨f1, f2, f3⟩ := fin _ ho
  have hC := Lib.hid f1
  have hP := Lib.hid f2
  have hZ := Lib.hid f3
  clear fin f1 f2 f3
  have hF : FloatKind.f64.format.order a b = o := ho
  clear ho
  rcases o with _ | _ | _ | _
  all_goals
    go_enter Try.func15, Try.ntmps15
    go_wp2_with (go_at_call 26; first | ((with_reducible refine (fdouble_any a _).mono ?_); rintro e w' ⟨rfl, rfl⟩) | ((with_reducible refine (fdouble_any b _).mono ?_); rintro e w' ⟨rfl, rfl⟩))
    refine bodyPost_ret (v := .agg #[.bool (cmpC a b), .bool (cmpP a b), .bool (cmpZ a b), .bool false, .bool false, .bool false]) (by rw [hC.out, hP.out, hZ.out]; simp [results, Try.results15, go_sem]) rfl ⟨rfl, below_last (Below.refl _ _) _⟩
theorem ffrom_any (v : Int) (_ : 0 ≤ v) (_ : v < 4294967296) (w : World) : Calls Try.prog 23 #[.int .u32 v] w fun e w' => e = .returned (.int .u64 (fromN v : Nat)) ∧ Below w.heap.size w w' := by
  go_enter Try.func23, Try.ntmps23
  go_wp2
  go_ret
  exact ⟨by rw [fromN_is]; rfl, below_same w⟩
theorem fisnan_any (a : Nat) (h1 : a < 18446744073709551616) (w : World) : Calls Try.prog 19 #[.int .u64 (a : Int)] w fun e w' => e = .returned (.bool (nanB a)) ∧ Below w.heap.size w w' := (fisnan_same a h1 w).mono fun _ _ h => fsame h
theorem fquiet_any (a : Nat) (h1 : a < 18446744073709551616) (w : World) : Calls Try.prog 21 #[.int .u64 (a : Int)] w fun e w' => e = .returned (.int .u64 (quietN a : Nat)) ∧ Below w.heap.size w w' := (fquiet_same a h1 w).mono fun _ _ h => fsame h
set_option maxHeartbeats 1000000 in
theorem ftoint_any (a : Nat) (_ : a < 18446744073709551616) (w : World) : Calls Try.prog 17 #[.int .u64 (a : Int)] w fun e w' => e = .returned (.int .u32 (toN a)) ∧ Below w.heap.size w w' := by
  by_cases na : nanB a = true
  · have hV := Lib.hid (toN_nan a na)
    have hF1 : FloatKind.f64.format.order a 4746794007248502784 = none := order_nan a _ (.inl na)
    have hF2 : FloatKind.f64.format.order a 13970166044105375744 = none := order_nan a _ (.inl na)
    clear na
    go_enter Try.func17, Try.ntmps17
    go_wp2_with (go_at_call 26; refine (fdouble_any a _).mono ?_; rintro e w' ⟨rfl, rfl⟩)
    go_ret
    exact ⟨by rw [hV.out]; rfl, below_same w⟩
  have na' : nanB a = false := by simpa using na
  clear na
  rcases toN_cases a na' with ⟨o1, o2, n, hO1, hO2, hn, c1, c2, n0, n1, hV'⟩ | ⟨o1, o2, hO1, hO2, hc, hV'⟩
  · have hV := Lib.hid hV'
    have hF1 : FloatKind.f64.format.order a 4746794007248502784 = some o1 := hO1
    have hF2 : FloatKind.f64.format.order a 13970166044105375744 = some o2 := hO2
    have hC : floatToIntVal .f64 a .i64 = some n := by
      unfold floatToIntVal
      rw [show FloatKind.f64.decode a = Ieee.double.read a from rfl, hn]
      simp only
      have e1 : IntKind.i64.min = -9223372036854775808 := by decide
      have e2 : IntKind.i64.max = 9223372036854775807 := by decide
      rw [if_pos (by omega)]
    have hCC := fun w : World => run_convert_float_int (P := Try.prog) w 47 2 .f64 .i64 a n (by rw [Try.underlying47]; rfl) Try.underlying2 hC
    subst c1 c2
    clear hO1 hO2 hn hV' hC na'
    go_enter Try.func17, Try.ntmps17
    go_wp2_with (go_at_call 26; refine (fdouble_any a _).mono ?_; rintro e w' ⟨rfl, rfl⟩)
    go_ret
    exact ⟨by rw [hV.out]; rfl, below_same w⟩
  · have hV := Lib.hid hV'
    have hF1 : FloatKind.f64.format.order a 4746794007248502784 = some o1 := hO1
    have hF2 : FloatKind.f64.format.order a 13970166044105375744 = some o2 := hO2
    clear hO1 hO2 hV' na'
    rcases hc with hc | ⟨rfl, hc⟩
    · cases o1
      case lt => exact absurd rfl hc
      all_goals
        clear hc
        cases o2
        all_goals
          go_enter Try.func17, Try.ntmps17
          go_wp2_with (go_at_call 26; refine (fdouble_any a _).mono ?_; rintro e w' ⟨rfl, rfl⟩)
          go_ret
          exact ⟨by rw [hV.out]; rfl, below_same w⟩
    · cases o2
      case gt => exact absurd rfl hc
      all_goals
        clear hc
        go_enter Try.func17, Try.ntmps17
        go_wp2_with (go_at_call 26; refine (fdouble_any a _).mono ?_; rintro e w' ⟨rfl, rfl⟩)
        go_ret
        exact ⟨by rw [hV.out]; rfl, below_same w⟩
end Go.Proofs.Ytjapmkaapciegaa
