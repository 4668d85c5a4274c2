/- What the document's own doubles (package salternref1) answer, for every input. -/
import Derived.Test.YtjapmkaapciegaaMath4
namespace Go.Proofs.Ytjapmkaapciegaa
open Go.ChangeShapes Go.WideShapes Go.ChangeAt Go.RowKit

theorem and_exp (a : Nat) (h1 : a < 18446744073709551616) : bits .and .u64 ((a : Int) / 4503599627370496) 2047 = (a : Int) / 4503599627370496 % 2048 :=
  bits_mask .u64 64 (by decide) (fun m h0 h1 => by rw [IntKind.wrap_u64]; omega) 11 (by decide) _ (by omega) (by simp; omega)
theorem and_frac (a : Nat) (h1 : a < 18446744073709551616) : bits .and .u64 (a : Int) 4503599627370495 = (a : Int) % 4503599627370496 :=
  bits_mask .u64 64 (by decide) (fun m h0 h1 => by rw [IntKind.wrap_u64]; omega) 52 (by decide) _ (by omega) (by simp; omega)
theorem nan_parts (a : Nat) : nanB a = ((a : Int) / 4503599627370496 % 2048 == 2047 && (a : Int) % 4503599627370496 != 0) := by
  unfold nanB
  rw [Bool.eq_iff_iff]
  simp only [decide_eq_true_eq, Bool.and_eq_true, beq_iff_eq, bne_iff_ne, ne_eq]
  omega
theorem risnan_any (a : Nat) (h1 : a < 18446744073709551616) (w : World) : Calls Try.prog 20 #[.int .u64 (a : Int)] w fun e w' => e = .returned (.bool (nanB a)) ∧ w = w' := by
  have e1 := and_exp a h1
  have e2 := and_frac a h1
  have hN := Lib.hid (nan_parts a)
  by_cases h : (a : Int) / 4503599627370496 % 2048 = 2047
  · have h' : ((a : Int) / 4503599627370496 % 2048 == 2047) = true := by rw [beq_iff_eq]; exact h
    clear h
    go_enter Try.func20, Try.ntmps20
    go_wp2
    go_ret
    exact ⟨by rw [hN.out, h', Bool.true_and]; rfl, rfl⟩
  · have h' : ((a : Int) / 4503599627370496 % 2048 == 2047) = false := by rw [beq_eq_false_iff_ne]; exact h
    clear h
    go_enter Try.func20, Try.ntmps20
    go_wp2
    go_ret
    exact ⟨by rw [hN.out, h', Bool.false_and]; rfl, rfl⟩
theorem quiet_or (a : Nat) (h1 : a < 18446744073709551616) : bits .or .u64 (a : Int) 2251799813685248 = ((a ||| 2251799813685248 : Nat) : Int) := u64_or_nat a 2251799813685248 h1 (by decide)
theorem rquiet_any (a : Nat) (h1 : a < 18446744073709551616) (w : World) : Calls Try.prog 22 #[.int .u64 (a : Int)] w fun e w' => e = .returned (.int .u64 (quietN a : Nat)) ∧ w = w' := by
  have e1 := quiet_or a h1
  by_cases h : nanB a = true
  · have hQ := Lib.hid (show quietN a = a ||| 2251799813685248 by unfold quietN; rw [if_pos h])
    generalize a ||| 2251799813685248 = q at *
    go_enter Try.func22, Try.ntmps22
    go_wp2_with (go_at_call 20; refine (risnan_any _ h1 _).mono ?_; rintro e w' ⟨rfl, rfl⟩)
    go_ret
    exact ⟨by rw [hQ.out]; rfl, rfl⟩
  · have h' : nanB a = false := by simpa using h
    have hQ := Lib.hid (show quietN a = a by unfold quietN; rw [if_neg h])
    clear h e1
    go_enter Try.func22, Try.ntmps22
    go_wp2_with (go_at_call 20; refine (risnan_any _ h1 _).mono ?_; rintro e w' ⟨rfl, rfl⟩)
    go_ret
    exact ⟨by rw [hQ.out]; rfl, rfl⟩
attribute [local go_sem] m_frombits m_bits
theorem fromN_is (v : Int) : fromN v = floatOfInt .f64 (wrap32 v) := rfl
theorem rfrom_any (v : Int) (w : World) : Calls Try.prog 24 #[.int .u32 v] w fun e w' => e = .returned (.int .u64 (fromN v : Nat)) ∧ w = w' := by
  go_enter Try.func24, Try.ntmps24
  go_wp2
  go_ret
  exact ⟨by rw [fromN_is]; rfl, rfl⟩
theorem rzero_any (a : Nat) (w : World) : Calls Try.prog 31 #[.int .u64 (a : Int)] w fun e w' => e = .returned (.bool (a % 9223372036854775808 == 0)) ∧ w = w' := by
  have hE := Lib.hid (show (IntKind.u64.wrap ((a : Int) * 2) == 0) = (a % 9223372036854775808 == 0) by rw [IntKind.wrap_u64, Bool.eq_iff_iff, beq_iff_eq, beq_iff_eq]; omega)
  go_enter Try.func31, Try.ntmps31
  go_wp2
  go_ret
  exact ⟨by rw [← hE.out]; rfl, rfl⟩
/-- What is drawn or not changes no memory. -/
theorem below_same (w : World) : Below w.heap.size w w := Below.refl _ _
theorem below_drawn (w : World) : Below w.heap.size w w.drew := (Below.refl _ _).drew
theorem order_zeros (a b : Nat) (ha : a % 9223372036854775808 = 0) (hb : b % 9223372036854775808 = 0) : Ieee.double.order a b = some .eq := by
  unfold Ieee.Format.order
  rw [read_def, if_pos (by omega), read_def, if_pos (by omega), ha, hb]
  simp [Ieee.Datum.order, Ieee.signed]
theorem rmovd (a b : Nat) (w : World) : Calls Try.prog 14 #[.int .i64 51, .int .u64 (a : Int), .int .u64 (b : Int)] w fun e w' => e = .returned (.int .u64 (b : Int)) ∧ Below w.heap.size w w' := by
  go_enter Try.func14, Try.ntmps14
  go_wp2
  go_ret
  exact ⟨rfl, below_same w⟩
theorem rother (op : Int) (a b : Nat) (h51 : (op == 51) = false) (h52 : (op == 52) = false) (h53 : (op == 53) = false) (h54 : (op == 54) = false) (h55 : (op == 55) = false) (h56 : (op == 56) = false) (h57 : (op == 57) = false) (h58 : (op == 58) = false) (w : World) :
    Calls Try.prog 14 #[.int .i64 op, .int .u64 (a : Int), .int .u64 (b : Int)] w fun e w' => e = .returned (.int .u64 (a : Int)) ∧ Below w.heap.size w w' := by
  go_enter Try.func14, Try.ntmps14
  go_wp2
  go_ret
  exact ⟨rfl, below_same w⟩
set_option maxHeartbeats 1000000 in
theorem rmind (a b : Nat) (h1 : a < 18446744073709551616) (k1 : b < 18446744073709551616) (w : World) : Calls Try.prog 14 #[.int .i64 55, .int .u64 (a : Int), .int .u64 (b : Int)] w fun e w' => e = .returned (.int .u64 (minN a b : Nat)) ∧ Below w.heap.size w w' := by
  by_cases na : nanB a = true
  · have hV := Lib.hid (show minN a b = b by unfold minN; rw [order_nan a b (.inl na)]; rfl)
    go_enter Try.func14, Try.ntmps14
    go_wp2_with (first | (go_at_call 20; first | ((with_reducible refine (risnan_any a h1 _).mono ?_); rintro e w' ⟨rfl, rfl⟩) | ((with_reducible refine (risnan_any b k1 _).mono ?_); rintro e w' ⟨rfl, rfl⟩)) | (go_at_call 22; first | ((with_reducible refine (rquiet_any a h1 _).mono ?_); rintro e w' ⟨rfl, rfl⟩) | ((with_reducible refine (rquiet_any b k1 _).mono ?_); rintro e w' ⟨rfl, rfl⟩)) | (go_at_call 31; first | ((with_reducible refine (rzero_any a _).mono ?_); rintro e w' ⟨rfl, rfl⟩) | ((with_reducible refine (rzero_any b _).mono ?_); rintro e w' ⟨rfl, rfl⟩)) | (go_at_call 28; refine (hS _).mono ?_; rintro e w' ⟨rfl, rfl⟩))
    go_ret
    exact ⟨by rw [hV.out]; rfl, below_same w⟩
  have na' : nanB a = false := by simpa using na
  clear na
  by_cases nb : nanB b = true
  · have hV := Lib.hid (show minN a b = b by unfold minN; rw [order_nan a b (.inr nb)]; rfl)
    go_enter Try.func14, Try.ntmps14
    go_wp2_with (first | (go_at_call 20; first | ((with_reducible refine (risnan_any a h1 _).mono ?_); rintro e w' ⟨rfl, rfl⟩) | ((with_reducible refine (risnan_any b k1 _).mono ?_); rintro e w' ⟨rfl, rfl⟩)) | (go_at_call 22; first | ((with_reducible refine (rquiet_any a h1 _).mono ?_); rintro e w' ⟨rfl, rfl⟩) | ((with_reducible refine (rquiet_any b k1 _).mono ?_); rintro e w' ⟨rfl, rfl⟩)) | (go_at_call 31; first | ((with_reducible refine (rzero_any a _).mono ?_); rintro e w' ⟨rfl, rfl⟩) | ((with_reducible refine (rzero_any b _).mono ?_); rintro e w' ⟨rfl, rfl⟩)) | (go_at_call 28; refine (hS _).mono ?_; rintro e w' ⟨rfl, rfl⟩))
    go_ret
    exact ⟨by rw [hV.out]; rfl, below_same w⟩
  have nb' : nanB b = false := by simpa using nb
  clear nb
  by_cases hz : a % 9223372036854775808 = 0 ∧ b % 9223372036854775808 = 0
  · obtain ⟨za, zb⟩ := hz
    have hV := Lib.hid (show minN a b = b by unfold minN; rw [order_zeros a b za zb]; rfl)
    have za' : (a % 9223372036854775808 == 0) = true := by rw [beq_iff_eq]; exact za
    have zb' : (b % 9223372036854775808 == 0) = true := by rw [beq_iff_eq]; exact zb
    clear za zb
    go_enter Try.func14, Try.ntmps14
    go_wp2_with (first | (go_at_call 20; first | ((with_reducible refine (risnan_any a h1 _).mono ?_); rintro e w' ⟨rfl, rfl⟩) | ((with_reducible refine (risnan_any b k1 _).mono ?_); rintro e w' ⟨rfl, rfl⟩)) | (go_at_call 22; first | ((with_reducible refine (rquiet_any a h1 _).mono ?_); rintro e w' ⟨rfl, rfl⟩) | ((with_reducible refine (rquiet_any b k1 _).mono ?_); rintro e w' ⟨rfl, rfl⟩)) | (go_at_call 31; first | ((with_reducible refine (rzero_any a _).mono ?_); rintro e w' ⟨rfl, rfl⟩) | ((with_reducible refine (rzero_any b _).mono ?_); rintro e w' ⟨rfl, rfl⟩)) | (go_at_call 28; refine (hS _).mono ?_; rintro e w' ⟨rfl, rfl⟩))
    go_ret
    exact ⟨by rw [hV.out]; rfl, below_same w⟩
  obtain ⟨o, ho⟩ := order_some a b na' nb'
  have hz' : (a % 9223372036854775808 == 0) = false ∨ ((a % 9223372036854775808 == 0) = true ∧ (b % 9223372036854775808 == 0) = false) := by
    simp only [beq_iff_eq, beq_eq_false_iff_ne]; omega
  clear hz
  have hF : FloatKind.f64.format.order a b = some o := ho
  have hV := Lib.hid (show minN a b = if o = .lt then a else b by unfold minN; rw [ho]; cases o <;> rfl)
  clear ho
  rcases hz' with za' | ⟨za', zb'⟩
  all_goals
    cases o
    all_goals
      go_enter Try.func14, Try.ntmps14
      go_wp2_with (first | (go_at_call 20; first | ((with_reducible refine (risnan_any a h1 _).mono ?_); rintro e w' ⟨rfl, rfl⟩) | ((with_reducible refine (risnan_any b k1 _).mono ?_); rintro e w' ⟨rfl, rfl⟩)) | (go_at_call 22; first | ((with_reducible refine (rquiet_any a h1 _).mono ?_); rintro e w' ⟨rfl, rfl⟩) | ((with_reducible refine (rquiet_any b k1 _).mono ?_); rintro e w' ⟨rfl, rfl⟩)) | (go_at_call 31; first | ((with_reducible refine (rzero_any a _).mono ?_); rintro e w' ⟨rfl, rfl⟩) | ((with_reducible refine (rzero_any b _).mono ?_); rintro e w' ⟨rfl, rfl⟩)) | (go_at_call 28; refine (hS _).mono ?_; rintro e w' ⟨rfl, rfl⟩))
      go_ret
      exact ⟨by rw [hV.out]; rfl, below_same w⟩
set_option maxHeartbeats 1000000 in
theorem rmaxd (a b : Nat) (h1 : a < 18446744073709551616) (k1 : b < 18446744073709551616) (w : World) : Calls Try.prog 14 #[.int .i64 57, .int .u64 (a : Int), .int .u64 (b : Int)] w fun e w' => e = .returned (.int .u64 (maxN a b : Nat)) ∧ Below w.heap.size w w' := by
  by_cases na : nanB a = true
  · have hV := Lib.hid (show maxN a b = b by unfold maxN; rw [order_nan a b (.inl na)]; rfl)
    go_enter Try.func14, Try.ntmps14
    go_wp2_with (first | (go_at_call 20; first | ((with_reducible refine (risnan_any a h1 _).mono ?_); rintro e w' ⟨rfl, rfl⟩) | ((with_reducible refine (risnan_any b k1 _).mono ?_); rintro e w' ⟨rfl, rfl⟩)) | (go_at_call 22; first | ((with_reducible refine (rquiet_any a h1 _).mono ?_); rintro e w' ⟨rfl, rfl⟩) | ((with_reducible refine (rquiet_any b k1 _).mono ?_); rintro e w' ⟨rfl, rfl⟩)) | (go_at_call 31; first | ((with_reducible refine (rzero_any a _).mono ?_); rintro e w' ⟨rfl, rfl⟩) | ((with_reducible refine (rzero_any b _).mono ?_); rintro e w' ⟨rfl, rfl⟩)) | (go_at_call 28; refine (hS _).mono ?_; rintro e w' ⟨rfl, rfl⟩))
    go_ret
    exact ⟨by rw [hV.out]; rfl, below_same w⟩
  have na' : nanB a = false := by simpa using na
  clear na
  by_cases nb : nanB b = true
  · have hV := Lib.hid (show maxN a b = b by unfold maxN; rw [order_nan a b (.inr nb)]; rfl)
    go_enter Try.func14, Try.ntmps14
    go_wp2_with (first | (go_at_call 20; first | ((with_reducible refine (risnan_any a h1 _).mono ?_); rintro e w' ⟨rfl, rfl⟩) | ((with_reducible refine (risnan_any b k1 _).mono ?_); rintro e w' ⟨rfl, rfl⟩)) | (go_at_call 22; first | ((with_reducible refine (rquiet_any a h1 _).mono ?_); rintro e w' ⟨rfl, rfl⟩) | ((with_reducible refine (rquiet_any b k1 _).mono ?_); rintro e w' ⟨rfl, rfl⟩)) | (go_at_call 31; first | ((with_reducible refine (rzero_any a _).mono ?_); rintro e w' ⟨rfl, rfl⟩) | ((with_reducible refine (rzero_any b _).mono ?_); rintro e w' ⟨rfl, rfl⟩)) | (go_at_call 28; refine (hS _).mono ?_; rintro e w' ⟨rfl, rfl⟩))
    go_ret
    exact ⟨by rw [hV.out]; rfl, below_same w⟩
  have nb' : nanB b = false := by simpa using nb
  clear nb
  by_cases hz : a % 9223372036854775808 = 0 ∧ b % 9223372036854775808 = 0
  · obtain ⟨za, zb⟩ := hz
    have hV := Lib.hid (show maxN a b = b by unfold maxN; rw [order_zeros a b za zb]; rfl)
    have za' : (a % 9223372036854775808 == 0) = true := by rw [beq_iff_eq]; exact za
    have zb' : (b % 9223372036854775808 == 0) = true := by rw [beq_iff_eq]; exact zb
    clear za zb
    go_enter Try.func14, Try.ntmps14
    go_wp2_with (first | (go_at_call 20; first | ((with_reducible refine (risnan_any a h1 _).mono ?_); rintro e w' ⟨rfl, rfl⟩) | ((with_reducible refine (risnan_any b k1 _).mono ?_); rintro e w' ⟨rfl, rfl⟩)) | (go_at_call 22; first | ((with_reducible refine (rquiet_any a h1 _).mono ?_); rintro e w' ⟨rfl, rfl⟩) | ((with_reducible refine (rquiet_any b k1 _).mono ?_); rintro e w' ⟨rfl, rfl⟩)) | (go_at_call 31; first | ((with_reducible refine (rzero_any a _).mono ?_); rintro e w' ⟨rfl, rfl⟩) | ((with_reducible refine (rzero_any b _).mono ?_); rintro e w' ⟨rfl, rfl⟩)) | (go_at_call 28; refine (hS _).mono ?_; rintro e w' ⟨rfl, rfl⟩))
    go_ret
    exact ⟨by rw [hV.out]; rfl, below_same w⟩
  obtain ⟨o, ho⟩ := order_some a b na' nb'
  have hz' : (a % 9223372036854775808 == 0) = false ∨ ((a % 9223372036854775808 == 0) = true ∧ (b % 9223372036854775808 == 0) = false) := by
    simp only [beq_iff_eq, beq_eq_false_iff_ne]; omega
  clear hz
  have hF : FloatKind.f64.format.order a b = some o := ho
  have hV := Lib.hid (show maxN a b = if o = .gt then a else b by unfold maxN; rw [ho]; cases o <;> rfl)
  clear ho
  rcases hz' with za' | ⟨za', zb'⟩
  all_goals
    cases o
    all_goals
      go_enter Try.func14, Try.ntmps14
      go_wp2_with (first | (go_at_call 20; first | ((with_reducible refine (risnan_any a h1 _).mono ?_); rintro e w' ⟨rfl, rfl⟩) | ((with_reducible refine (risnan_any b k1 _).mono ?_); rintro e w' ⟨rfl, rfl⟩)) | (go_at_call 22; first | ((with_reducible refine (rquiet_any a h1 _).mono ?_); rintro e w' ⟨rfl, rfl⟩) | ((with_reducible refine (rquiet_any b k1 _).mono ?_); rintro e w' ⟨rfl, rfl⟩)) | (go_at_call 31; first | ((with_reducible refine (rzero_any a _).mono ?_); rintro e w' ⟨rfl, rfl⟩) | ((with_reducible refine (rzero_any b _).mono ?_); rintro e w' ⟨rfl, rfl⟩)) | (go_at_call 28; refine (hS _).mono ?_; rintro e w' ⟨rfl, rfl⟩))
      go_ret
      exact ⟨by rw [hV.out]; rfl, below_same w⟩
set_option maxHeartbeats 1000000 in
theorem rsqrtd (a b : Nat) (k1 : b < 18446744073709551616) (w : World) : Calls Try.prog 14 #[.int .i64 58, .int .u64 (a : Int), .int .u64 (b : Int)] w fun e w' => e = .returned (.int .u64 (rootN b : Nat)) ∧ Below w.heap.size w w' := by
  by_cases nb : nanB b = true
  · have hV := Lib.hid (show rootN b = quietN b by unfold rootN; rw [if_pos nb])
    go_enter Try.func14, Try.ntmps14
    go_wp2_with (first | (go_at_call 20; first | ((with_reducible refine (risnan_any a h1 _).mono ?_); rintro e w' ⟨rfl, rfl⟩) | ((with_reducible refine (risnan_any b k1 _).mono ?_); rintro e w' ⟨rfl, rfl⟩)) | (go_at_call 22; first | ((with_reducible refine (rquiet_any a h1 _).mono ?_); rintro e w' ⟨rfl, rfl⟩) | ((with_reducible refine (rquiet_any b k1 _).mono ?_); rintro e w' ⟨rfl, rfl⟩)) | (go_at_call 31; first | ((with_reducible refine (rzero_any a _).mono ?_); rintro e w' ⟨rfl, rfl⟩) | ((with_reducible refine (rzero_any b _).mono ?_); rintro e w' ⟨rfl, rfl⟩)) | (go_at_call 28; refine (hS _).mono ?_; rintro e w' ⟨rfl, rfl⟩))
    go_ret
    exact ⟨by rw [hV.out]; rfl, below_same w⟩
  have nb' : nanB b = false := by simpa using nb
  clear nb
  rcases sqrt_sign b nb' with ⟨hO, hS'⟩ | ⟨o, r, hO, ho, hS'⟩
  · have hV := Lib.hid (show rootN b = plainN by unfold rootN; rw [nb', hS']; rfl)
    have hF : FloatKind.f64.format.order b 0 = some .lt := hO
    clear hO hS'
    go_enter Try.func14, Try.ntmps14
    go_wp2_with (first | (go_at_call 20; first | ((with_reducible refine (risnan_any a h1 _).mono ?_); rintro e w' ⟨rfl, rfl⟩) | ((with_reducible refine (risnan_any b k1 _).mono ?_); rintro e w' ⟨rfl, rfl⟩)) | (go_at_call 22; first | ((with_reducible refine (rquiet_any a h1 _).mono ?_); rintro e w' ⟨rfl, rfl⟩) | ((with_reducible refine (rquiet_any b k1 _).mono ?_); rintro e w' ⟨rfl, rfl⟩)) | (go_at_call 31; first | ((with_reducible refine (rzero_any a _).mono ?_); rintro e w' ⟨rfl, rfl⟩) | ((with_reducible refine (rzero_any b _).mono ?_); rintro e w' ⟨rfl, rfl⟩)) | (go_at_call 28; refine (hS _).mono ?_; rintro e w' ⟨rfl, rfl⟩))
    go_ret
    exact ⟨by rw [hV.out]; rfl, below_same w⟩
  · have hV := Lib.hid (show rootN b = r by unfold rootN; rw [nb', hS']; rfl)
    have hF : FloatKind.f64.format.order b 0 = some o := hO
    have hS := msqrt_some b r hS'
    clear hO hS'
    cases o
    case lt => exact absurd rfl ho
    all_goals
      clear ho
      go_enter Try.func14, Try.ntmps14
      go_wp2_with (first | (go_at_call 20; first | ((with_reducible refine (risnan_any a h1 _).mono ?_); rintro e w' ⟨rfl, rfl⟩) | ((with_reducible refine (risnan_any b k1 _).mono ?_); rintro e w' ⟨rfl, rfl⟩)) | (go_at_call 22; first | ((with_reducible refine (rquiet_any a h1 _).mono ?_); rintro e w' ⟨rfl, rfl⟩) | ((with_reducible refine (rquiet_any b k1 _).mono ?_); rintro e w' ⟨rfl, rfl⟩)) | (go_at_call 31; first | ((with_reducible refine (rzero_any a _).mono ?_); rintro e w' ⟨rfl, rfl⟩) | ((with_reducible refine (rzero_any b _).mono ?_); rintro e w' ⟨rfl, rfl⟩)) | (go_at_call 28; refine (hS _).mono ?_; rintro e w' ⟨rfl, rfl⟩))
      go_ret
      exact ⟨by rw [hV.out]; rfl, below_same w⟩
set_option maxHeartbeats 1000000 in
theorem raddd (a b : Nat) (h1 : a < 18446744073709551616) (k1 : b < 18446744073709551616) (w : World) : Calls Try.prog 14 #[.int .i64 52, .int .u64 (a : Int), .int .u64 (b : Int)] w fun e w' => e = .returned (.int .u64 (arithN .add a b : Nat)) ∧ Below w.heap.size w w' := by
  by_cases na : nanB a = true
  · have hV := Lib.hid (show arithN .add a b = quietN a by unfold arithN; rw [if_pos na])
    go_enter Try.func14, Try.ntmps14
    go_wp2_with (first | (go_at_call 20; first | ((with_reducible refine (risnan_any a h1 _).mono ?_); rintro e w' ⟨rfl, rfl⟩) | ((with_reducible refine (risnan_any b k1 _).mono ?_); rintro e w' ⟨rfl, rfl⟩)) | (go_at_call 22; first | ((with_reducible refine (rquiet_any a h1 _).mono ?_); rintro e w' ⟨rfl, rfl⟩) | ((with_reducible refine (rquiet_any b k1 _).mono ?_); rintro e w' ⟨rfl, rfl⟩)) | (go_at_call 31; first | ((with_reducible refine (rzero_any a _).mono ?_); rintro e w' ⟨rfl, rfl⟩) | ((with_reducible refine (rzero_any b _).mono ?_); rintro e w' ⟨rfl, rfl⟩)) | (go_at_call 28; refine (hS _).mono ?_; rintro e w' ⟨rfl, rfl⟩))
    go_ret
    exact ⟨by rw [hV.out]; rfl, below_same w⟩
  have na' : nanB a = false := by simpa using na
  clear na
  by_cases nb : nanB b = true
  · have hV := Lib.hid (show arithN .add a b = quietN b by unfold arithN; rw [na', nb]; rfl)
    go_enter Try.func14, Try.ntmps14
    go_wp2_with (first | (go_at_call 20; first | ((with_reducible refine (risnan_any a h1 _).mono ?_); rintro e w' ⟨rfl, rfl⟩) | ((with_reducible refine (risnan_any b k1 _).mono ?_); rintro e w' ⟨rfl, rfl⟩)) | (go_at_call 22; first | ((with_reducible refine (rquiet_any a h1 _).mono ?_); rintro e w' ⟨rfl, rfl⟩) | ((with_reducible refine (rquiet_any b k1 _).mono ?_); rintro e w' ⟨rfl, rfl⟩)) | (go_at_call 31; first | ((with_reducible refine (rzero_any a _).mono ?_); rintro e w' ⟨rfl, rfl⟩) | ((with_reducible refine (rzero_any b _).mono ?_); rintro e w' ⟨rfl, rfl⟩)) | (go_at_call 28; refine (hS _).mono ?_; rintro e w' ⟨rfl, rfl⟩))
    go_ret
    exact ⟨by rw [hV.out]; rfl, below_same w⟩
  have nb' : nanB b = false := by simpa using nb
  clear nb
  cases hf : floatBits .add .f64 a b with
  | some r =>
    have hV := Lib.hid (show arithN .add a b = r by unfold arithN; rw [na', nb', hf]; rfl)
    have hA := fun w : World => run_float_arith (P := Try.prog) w .add 47 .f64 a b r hf
    have hF : FloatKind.f64.format.order r r = some .eq := by
      have := order_self r
      rw [fbits_nan hf] at this
      exact this
    clear hf
    go_enter Try.func14, Try.ntmps14
    go_wp2_with (first | (go_at_call 20; first | ((with_reducible refine (risnan_any a h1 _).mono ?_); rintro e w' ⟨rfl, rfl⟩) | ((with_reducible refine (risnan_any b k1 _).mono ?_); rintro e w' ⟨rfl, rfl⟩)) | (go_at_call 22; first | ((with_reducible refine (rquiet_any a h1 _).mono ?_); rintro e w' ⟨rfl, rfl⟩) | ((with_reducible refine (rquiet_any b k1 _).mono ?_); rintro e w' ⟨rfl, rfl⟩)) | (go_at_call 31; first | ((with_reducible refine (rzero_any a _).mono ?_); rintro e w' ⟨rfl, rfl⟩) | ((with_reducible refine (rzero_any b _).mono ?_); rintro e w' ⟨rfl, rfl⟩)) | (go_at_call 28; refine (hS _).mono ?_; rintro e w' ⟨rfl, rfl⟩))
    go_ret
    exact ⟨by rw [hV.out]; rfl, below_same w⟩
  | none =>
    have hV := Lib.hid (show arithN .add a b = plainN by unfold arithN; rw [na', nb', hf]; rfl)
    obtain ⟨r, hr, hl, hA⟩ := m_arith_none .add 47 a b (by decide) hf w
    have hF : FloatKind.f64.format.order r r = none := by
      have := order_self r
      rw [hr] at this
      exact this
    clear hf
    go_enter Try.func14, Try.ntmps14
    go_wp2_with (first | (go_at_call 20; first | ((with_reducible refine (risnan_any a h1 _).mono ?_); rintro e w' ⟨rfl, rfl⟩) | ((with_reducible refine (risnan_any b k1 _).mono ?_); rintro e w' ⟨rfl, rfl⟩)) | (go_at_call 22; first | ((with_reducible refine (rquiet_any a h1 _).mono ?_); rintro e w' ⟨rfl, rfl⟩) | ((with_reducible refine (rquiet_any b k1 _).mono ?_); rintro e w' ⟨rfl, rfl⟩)) | (go_at_call 31; first | ((with_reducible refine (rzero_any a _).mono ?_); rintro e w' ⟨rfl, rfl⟩) | ((with_reducible refine (rzero_any b _).mono ?_); rintro e w' ⟨rfl, rfl⟩)) | (go_at_call 28; refine (hS _).mono ?_; rintro e w' ⟨rfl, rfl⟩))
    go_ret
    exact ⟨by rw [hV.out]; rfl, below_drawn w⟩
set_option maxHeartbeats 1000000 in
theorem rmuld (a b : Nat) (h1 : a < 18446744073709551616) (k1 : b < 18446744073709551616) (w : World) : Calls Try.prog 14 #[.int .i64 53, .int .u64 (a : Int), .int .u64 (b : Int)] w fun e w' => e = .returned (.int .u64 (arithN .mul a b : Nat)) ∧ Below w.heap.size w w' := by
  by_cases na : nanB a = true
  · have hV := Lib.hid (show arithN .mul a b = quietN a by unfold arithN; rw [if_pos na])
    go_enter Try.func14, Try.ntmps14
    go_wp2_with (first | (go_at_call 20; first | ((with_reducible refine (risnan_any a h1 _).mono ?_); rintro e w' ⟨rfl, rfl⟩) | ((with_reducible refine (risnan_any b k1 _).mono ?_); rintro e w' ⟨rfl, rfl⟩)) | (go_at_call 22; first | ((with_reducible refine (rquiet_any a h1 _).mono ?_); rintro e w' ⟨rfl, rfl⟩) | ((with_reducible refine (rquiet_any b k1 _).mono ?_); rintro e w' ⟨rfl, rfl⟩)) | (go_at_call 31; first | ((with_reducible refine (rzero_any a _).mono ?_); rintro e w' ⟨rfl, rfl⟩) | ((with_reducible refine (rzero_any b _).mono ?_); rintro e w' ⟨rfl, rfl⟩)) | (go_at_call 28; refine (hS _).mono ?_; rintro e w' ⟨rfl, rfl⟩))
    go_ret
    exact ⟨by rw [hV.out]; rfl, below_same w⟩
  have na' : nanB a = false := by simpa using na
  clear na
  by_cases nb : nanB b = true
  · have hV := Lib.hid (show arithN .mul a b = quietN b by unfold arithN; rw [na', nb]; rfl)
    go_enter Try.func14, Try.ntmps14
    go_wp2_with (first | (go_at_call 20; first | ((with_reducible refine (risnan_any a h1 _).mono ?_); rintro e w' ⟨rfl, rfl⟩) | ((with_reducible refine (risnan_any b k1 _).mono ?_); rintro e w' ⟨rfl, rfl⟩)) | (go_at_call 22; first | ((with_reducible refine (rquiet_any a h1 _).mono ?_); rintro e w' ⟨rfl, rfl⟩) | ((with_reducible refine (rquiet_any b k1 _).mono ?_); rintro e w' ⟨rfl, rfl⟩)) | (go_at_call 31; first | ((with_reducible refine (rzero_any a _).mono ?_); rintro e w' ⟨rfl, rfl⟩) | ((with_reducible refine (rzero_any b _).mono ?_); rintro e w' ⟨rfl, rfl⟩)) | (go_at_call 28; refine (hS _).mono ?_; rintro e w' ⟨rfl, rfl⟩))
    go_ret
    exact ⟨by rw [hV.out]; rfl, below_same w⟩
  have nb' : nanB b = false := by simpa using nb
  clear nb
  cases hf : floatBits .mul .f64 a b with
  | some r =>
    have hV := Lib.hid (show arithN .mul a b = r by unfold arithN; rw [na', nb', hf]; rfl)
    have hA := fun w : World => run_float_arith (P := Try.prog) w .mul 47 .f64 a b r hf
    have hF : FloatKind.f64.format.order r r = some .eq := by
      have := order_self r
      rw [fbits_nan hf] at this
      exact this
    clear hf
    go_enter Try.func14, Try.ntmps14
    go_wp2_with (first | (go_at_call 20; first | ((with_reducible refine (risnan_any a h1 _).mono ?_); rintro e w' ⟨rfl, rfl⟩) | ((with_reducible refine (risnan_any b k1 _).mono ?_); rintro e w' ⟨rfl, rfl⟩)) | (go_at_call 22; first | ((with_reducible refine (rquiet_any a h1 _).mono ?_); rintro e w' ⟨rfl, rfl⟩) | ((with_reducible refine (rquiet_any b k1 _).mono ?_); rintro e w' ⟨rfl, rfl⟩)) | (go_at_call 31; first | ((with_reducible refine (rzero_any a _).mono ?_); rintro e w' ⟨rfl, rfl⟩) | ((with_reducible refine (rzero_any b _).mono ?_); rintro e w' ⟨rfl, rfl⟩)) | (go_at_call 28; refine (hS _).mono ?_; rintro e w' ⟨rfl, rfl⟩))
    go_ret
    exact ⟨by rw [hV.out]; rfl, below_same w⟩
  | none =>
    have hV := Lib.hid (show arithN .mul a b = plainN by unfold arithN; rw [na', nb', hf]; rfl)
    obtain ⟨r, hr, hl, hA⟩ := m_arith_none .mul 47 a b (by decide) hf w
    have hF : FloatKind.f64.format.order r r = none := by
      have := order_self r
      rw [hr] at this
      exact this
    clear hf
    go_enter Try.func14, Try.ntmps14
    go_wp2_with (first | (go_at_call 20; first | ((with_reducible refine (risnan_any a h1 _).mono ?_); rintro e w' ⟨rfl, rfl⟩) | ((with_reducible refine (risnan_any b k1 _).mono ?_); rintro e w' ⟨rfl, rfl⟩)) | (go_at_call 22; first | ((with_reducible refine (rquiet_any a h1 _).mono ?_); rintro e w' ⟨rfl, rfl⟩) | ((with_reducible refine (rquiet_any b k1 _).mono ?_); rintro e w' ⟨rfl, rfl⟩)) | (go_at_call 31; first | ((with_reducible refine (rzero_any a _).mono ?_); rintro e w' ⟨rfl, rfl⟩) | ((with_reducible refine (rzero_any b _).mono ?_); rintro e w' ⟨rfl, rfl⟩)) | (go_at_call 28; refine (hS _).mono ?_; rintro e w' ⟨rfl, rfl⟩))
    go_ret
    exact ⟨by rw [hV.out]; rfl, below_drawn w⟩
set_option maxHeartbeats 1000000 in
theorem rsubd (a b : Nat) (h1 : a < 18446744073709551616) (k1 : b < 18446744073709551616) (w : World) : Calls Try.prog 14 #[.int .i64 54, .int .u64 (a : Int), .int .u64 (b : Int)] w fun e w' => e = .returned (.int .u64 (arithN .sub a b : Nat)) ∧ Below w.heap.size w w' := by
  by_cases na : nanB a = true
  · have hV := Lib.hid (show arithN .sub a b = quietN a by unfold arithN; rw [if_pos na])
    go_enter Try.func14, Try.ntmps14
    go_wp2_with (first | (go_at_call 20; first | ((with_reducible refine (risnan_any a h1 _).mono ?_); rintro e w' ⟨rfl, rfl⟩) | ((with_reducible refine (risnan_any b k1 _).mono ?_); rintro e w' ⟨rfl, rfl⟩)) | (go_at_call 22; first | ((with_reducible refine (rquiet_any a h1 _).mono ?_); rintro e w' ⟨rfl, rfl⟩) | ((with_reducible refine (rquiet_any b k1 _).mono ?_); rintro e w' ⟨rfl, rfl⟩)) | (go_at_call 31; first | ((with_reducible refine (rzero_any a _).mono ?_); rintro e w' ⟨rfl, rfl⟩) | ((with_reducible refine (rzero_any b _).mono ?_); rintro e w' ⟨rfl, rfl⟩)) | (go_at_call 28; refine (hS _).mono ?_; rintro e w' ⟨rfl, rfl⟩))
    go_ret
    exact ⟨by rw [hV.out]; rfl, below_same w⟩
  have na' : nanB a = false := by simpa using na
  clear na
  by_cases nb : nanB b = true
  · have hV := Lib.hid (show arithN .sub a b = quietN b by unfold arithN; rw [na', nb]; rfl)
    go_enter Try.func14, Try.ntmps14
    go_wp2_with (first | (go_at_call 20; first | ((with_reducible refine (risnan_any a h1 _).mono ?_); rintro e w' ⟨rfl, rfl⟩) | ((with_reducible refine (risnan_any b k1 _).mono ?_); rintro e w' ⟨rfl, rfl⟩)) | (go_at_call 22; first | ((with_reducible refine (rquiet_any a h1 _).mono ?_); rintro e w' ⟨rfl, rfl⟩) | ((with_reducible refine (rquiet_any b k1 _).mono ?_); rintro e w' ⟨rfl, rfl⟩)) | (go_at_call 31; first | ((with_reducible refine (rzero_any a _).mono ?_); rintro e w' ⟨rfl, rfl⟩) | ((with_reducible refine (rzero_any b _).mono ?_); rintro e w' ⟨rfl, rfl⟩)) | (go_at_call 28; refine (hS _).mono ?_; rintro e w' ⟨rfl, rfl⟩))
    go_ret
    exact ⟨by rw [hV.out]; rfl, below_same w⟩
  have nb' : nanB b = false := by simpa using nb
  clear nb
  cases hf : floatBits .sub .f64 a b with
  | some r =>
    have hV := Lib.hid (show arithN .sub a b = r by unfold arithN; rw [na', nb', hf]; rfl)
    have hA := fun w : World => run_float_arith (P := Try.prog) w .sub 47 .f64 a b r hf
    have hF : FloatKind.f64.format.order r r = some .eq := by
      have := order_self r
      rw [fbits_nan hf] at this
      exact this
    clear hf
    go_enter Try.func14, Try.ntmps14
    go_wp2_with (first | (go_at_call 20; first | ((with_reducible refine (risnan_any a h1 _).mono ?_); rintro e w' ⟨rfl, rfl⟩) | ((with_reducible refine (risnan_any b k1 _).mono ?_); rintro e w' ⟨rfl, rfl⟩)) | (go_at_call 22; first | ((with_reducible refine (rquiet_any a h1 _).mono ?_); rintro e w' ⟨rfl, rfl⟩) | ((with_reducible refine (rquiet_any b k1 _).mono ?_); rintro e w' ⟨rfl, rfl⟩)) | (go_at_call 31; first | ((with_reducible refine (rzero_any a _).mono ?_); rintro e w' ⟨rfl, rfl⟩) | ((with_reducible refine (rzero_any b _).mono ?_); rintro e w' ⟨rfl, rfl⟩)) | (go_at_call 28; refine (hS _).mono ?_; rintro e w' ⟨rfl, rfl⟩))
    go_ret
    exact ⟨by rw [hV.out]; rfl, below_same w⟩
  | none =>
    have hV := Lib.hid (show arithN .sub a b = plainN by unfold arithN; rw [na', nb', hf]; rfl)
    obtain ⟨r, hr, hl, hA⟩ := m_arith_none .sub 47 a b (by decide) hf w
    have hF : FloatKind.f64.format.order r r = none := by
      have := order_self r
      rw [hr] at this
      exact this
    clear hf
    go_enter Try.func14, Try.ntmps14
    go_wp2_with (first | (go_at_call 20; first | ((with_reducible refine (risnan_any a h1 _).mono ?_); rintro e w' ⟨rfl, rfl⟩) | ((with_reducible refine (risnan_any b k1 _).mono ?_); rintro e w' ⟨rfl, rfl⟩)) | (go_at_call 22; first | ((with_reducible refine (rquiet_any a h1 _).mono ?_); rintro e w' ⟨rfl, rfl⟩) | ((with_reducible refine (rquiet_any b k1 _).mono ?_); rintro e w' ⟨rfl, rfl⟩)) | (go_at_call 31; first | ((with_reducible refine (rzero_any a _).mono ?_); rintro e w' ⟨rfl, rfl⟩) | ((with_reducible refine (rzero_any b _).mono ?_); rintro e w' ⟨rfl, rfl⟩)) | (go_at_call 28; refine (hS _).mono ?_; rintro e w' ⟨rfl, rfl⟩))
    go_ret
    exact ⟨by rw [hV.out]; rfl, below_drawn w⟩
set_option maxHeartbeats 1000000 in
theorem rquod (a b : Nat) (h1 : a < 18446744073709551616) (k1 : b < 18446744073709551616) (w : World) : Calls Try.prog 14 #[.int .i64 56, .int .u64 (a : Int), .int .u64 (b : Int)] w fun e w' => e = .returned (.int .u64 (arithN .quo a b : Nat)) ∧ Below w.heap.size w w' := by
  by_cases na : nanB a = true
  · have hV := Lib.hid (show arithN .quo a b = quietN a by unfold arithN; rw [if_pos na])
    go_enter Try.func14, Try.ntmps14
    go_wp2_with (first | (go_at_call 20; first | ((with_reducible refine (risnan_any a h1 _).mono ?_); rintro e w' ⟨rfl, rfl⟩) | ((with_reducible refine (risnan_any b k1 _).mono ?_); rintro e w' ⟨rfl, rfl⟩)) | (go_at_call 22; first | ((with_reducible refine (rquiet_any a h1 _).mono ?_); rintro e w' ⟨rfl, rfl⟩) | ((with_reducible refine (rquiet_any b k1 _).mono ?_); rintro e w' ⟨rfl, rfl⟩)) | (go_at_call 31; first | ((with_reducible refine (rzero_any a _).mono ?_); rintro e w' ⟨rfl, rfl⟩) | ((with_reducible refine (rzero_any b _).mono ?_); rintro e w' ⟨rfl, rfl⟩)) | (go_at_call 28; refine (hS _).mono ?_; rintro e w' ⟨rfl, rfl⟩))
    go_ret
    exact ⟨by rw [hV.out]; rfl, below_same w⟩
  have na' : nanB a = false := by simpa using na
  clear na
  by_cases nb : nanB b = true
  · have hV := Lib.hid (show arithN .quo a b = quietN b by unfold arithN; rw [na', nb]; rfl)
    go_enter Try.func14, Try.ntmps14
    go_wp2_with (first | (go_at_call 20; first | ((with_reducible refine (risnan_any a h1 _).mono ?_); rintro e w' ⟨rfl, rfl⟩) | ((with_reducible refine (risnan_any b k1 _).mono ?_); rintro e w' ⟨rfl, rfl⟩)) | (go_at_call 22; first | ((with_reducible refine (rquiet_any a h1 _).mono ?_); rintro e w' ⟨rfl, rfl⟩) | ((with_reducible refine (rquiet_any b k1 _).mono ?_); rintro e w' ⟨rfl, rfl⟩)) | (go_at_call 31; first | ((with_reducible refine (rzero_any a _).mono ?_); rintro e w' ⟨rfl, rfl⟩) | ((with_reducible refine (rzero_any b _).mono ?_); rintro e w' ⟨rfl, rfl⟩)) | (go_at_call 28; refine (hS _).mono ?_; rintro e w' ⟨rfl, rfl⟩))
    go_ret
    exact ⟨by rw [hV.out]; rfl, below_same w⟩
  have nb' : nanB b = false := by simpa using nb
  clear nb
  cases hf : floatBits .quo .f64 a b with
  | some r =>
    have hV := Lib.hid (show arithN .quo a b = r by unfold arithN; rw [na', nb', hf]; rfl)
    have hA := fun w : World => run_float_arith (P := Try.prog) w .quo 47 .f64 a b r hf
    have hF : FloatKind.f64.format.order r r = some .eq := by
      have := order_self r
      rw [fbits_nan hf] at this
      exact this
    clear hf
    go_enter Try.func14, Try.ntmps14
    go_wp2_with (first | (go_at_call 20; first | ((with_reducible refine (risnan_any a h1 _).mono ?_); rintro e w' ⟨rfl, rfl⟩) | ((with_reducible refine (risnan_any b k1 _).mono ?_); rintro e w' ⟨rfl, rfl⟩)) | (go_at_call 22; first | ((with_reducible refine (rquiet_any a h1 _).mono ?_); rintro e w' ⟨rfl, rfl⟩) | ((with_reducible refine (rquiet_any b k1 _).mono ?_); rintro e w' ⟨rfl, rfl⟩)) | (go_at_call 31; first | ((with_reducible refine (rzero_any a _).mono ?_); rintro e w' ⟨rfl, rfl⟩) | ((with_reducible refine (rzero_any b _).mono ?_); rintro e w' ⟨rfl, rfl⟩)) | (go_at_call 28; refine (hS _).mono ?_; rintro e w' ⟨rfl, rfl⟩))
    go_ret
    exact ⟨by rw [hV.out]; rfl, below_same w⟩
  | none =>
    have hV := Lib.hid (show arithN .quo a b = plainN by unfold arithN; rw [na', nb', hf]; rfl)
    obtain ⟨r, hr, hl, hA⟩ := m_arith_none .quo 47 a b (by decide) hf w
    have hF : FloatKind.f64.format.order r r = none := by
      have := order_self r
      rw [hr] at this
      exact this
    clear hf
    go_enter Try.func14, Try.ntmps14
    go_wp2_with (first | (go_at_call 20; first | ((with_reducible refine (risnan_any a h1 _).mono ?_); rintro e w' ⟨rfl, rfl⟩) | ((with_reducible refine (risnan_any b k1 _).mono ?_); rintro e w' ⟨rfl, rfl⟩)) | (go_at_call 22; first | ((with_reducible refine (rquiet_any a h1 _).mono ?_); rintro e w' ⟨rfl, rfl⟩) | ((with_reducible refine (rquiet_any b k1 _).mono ?_); rintro e w' ⟨rfl, rfl⟩)) | (go_at_call 31; first | ((with_reducible refine (rzero_any a _).mono ?_); rintro e w' ⟨rfl, rfl⟩) | ((with_reducible refine (rzero_any b _).mono ?_); rintro e w' ⟨rfl, rfl⟩)) | (go_at_call 28; refine (hS _).mono ?_; rintro e w' ⟨rfl, rfl⟩))
    go_ret
    exact ⟨by rw [hV.out]; rfl, below_drawn w⟩
theorem rfloat_any (op : Int) (a b : Nat) (h1 : a < 18446744073709551616) (k1 : b < 18446744073709551616) (w : World) : Calls Try.prog 14 #[.int .i64 op, .int .u64 (a : Int), .int .u64 (b : Int)] w fun e w' => e = .returned (.int .u64 (fltN op a b : Nat)) ∧ Below w.heap.size w w' := by
  unfold fltN
  by_cases e51 : op = 51
  · subst e51; exact rmovd a b w
  by_cases e52 : op = 52
  · subst e52; exact raddd a b h1 k1 w
  by_cases e53 : op = 53
  · subst e53; exact rmuld a b h1 k1 w
  by_cases e54 : op = 54
  · subst e54; exact rsubd a b h1 k1 w
  by_cases e55 : op = 55
  · subst e55; exact rmind a b h1 k1 w
  by_cases e56 : op = 56
  · subst e56; exact rquod a b h1 k1 w
  by_cases e57 : op = 57
  · subst e57; exact rmaxd a b h1 k1 w
  by_cases e58 : op = 58
  · subst e58; exact rsqrtd a b k1 w
  rw [if_neg e51, if_neg e52, if_neg e53, if_neg e54, if_neg e55, if_neg e56, if_neg e57, if_neg e58]
  exact rother op a b (by simpa using e51) (by simpa using e52) (by simpa using e53) (by simpa using e54) (by simpa using e55) (by simpa using e56) (by simpa using e57) (by simpa using e58) w
set_option maxHeartbeats 1000000 in
theorem rcompare_any (a b : Nat) (h1 : a < 18446744073709551616) (k1 : b < 18446744073709551616) (w : World) : Calls Try.prog 16 #[.int .u64 (a : Int), .int .u64 (b : Int)] w fun e w' =>
   e = .returned (.agg #[.bool (cmpC a b), .bool (cmpP a b), .bool (cmpZ a b), .bool false, .bool false, .bool false]) ∧ Below w.heap.size w w' := by
  have fin : ∀ o, Ieee.double.order a b = o → cmpC a b = (o == none || o == some .lt) ∧ cmpP a b = (o == none) ∧ cmpZ a b = (o == none || o == some .eq) := by
    intro o h; unfold cmpC cmpP cmpZ; rw [h]; exact ⟨rfl, rfl, rfl⟩
  by_cases na : nanB a = true
  · obtain ⟨f1, f2, f3⟩ := fin _ (order_nan a b (.inl na))
    have hC := Lib.hid f1
    have hP := Lib.hid f2
    have hZ := Lib.hid f3
    clear fin f1 f2 f3
    go_enter Try.func16, Try.ntmps16
    go_wp2_with (first | (go_at_call 20; first | ((with_reducible refine (risnan_any a h1 _).mono ?_); rintro e w' ⟨rfl, rfl⟩) | ((with_reducible refine (risnan_any b k1 _).mono ?_); rintro e w' ⟨rfl, rfl⟩)) | (go_at_call 22; first | ((with_reducible refine (rquiet_any a h1 _).mono ?_); rintro e w' ⟨rfl, rfl⟩) | ((with_reducible refine (rquiet_any b k1 _).mono ?_); rintro e w' ⟨rfl, rfl⟩)) | (go_at_call 31; first | ((with_reducible refine (rzero_any a _).mono ?_); rintro e w' ⟨rfl, rfl⟩) | ((with_reducible refine (rzero_any b _).mono ?_); rintro e w' ⟨rfl, rfl⟩)) | (go_at_call 28; refine (hS _).mono ?_; rintro e w' ⟨rfl, rfl⟩))
    refine bodyPost_ret (v := .agg #[.bool (cmpC a b), .bool (cmpP a b), .bool (cmpZ a b), .bool false, .bool false, .bool false]) (by rw [hC.out, hP.out, hZ.out]; simp [results, Try.results16, go_sem]) rfl ⟨rfl, below_last (Below.refl _ _) _⟩
  have na' : nanB a = false := by simpa using na
  clear na
  by_cases nb : nanB b = true
  · obtain ⟨f1, f2, f3⟩ := fin _ (order_nan a b (.inr nb))
    have hC := Lib.hid f1
    have hP := Lib.hid f2
    have hZ := Lib.hid f3
    clear fin f1 f2 f3
    go_enter Try.func16, Try.ntmps16
    go_wp2_with (first | (go_at_call 20; first | ((with_reducible refine (risnan_any a h1 _).mono ?_); rintro e w' ⟨rfl, rfl⟩) | ((with_reducible refine (risnan_any b k1 _).mono ?_); rintro e w' ⟨rfl, rfl⟩)) | (go_at_call 22; first | ((with_reducible refine (rquiet_any a h1 _).mono ?_); rintro e w' ⟨rfl, rfl⟩) | ((with_reducible refine (rquiet_any b k1 _).mono ?_); rintro e w' ⟨rfl, rfl⟩)) | (go_at_call 31; first | ((with_reducible refine (rzero_any a _).mono ?_); rintro e w' ⟨rfl, rfl⟩) | ((with_reducible refine (rzero_any b _).mono ?_); rintro e w' ⟨rfl, rfl⟩)) | (go_at_call 28; refine (hS _).mono ?_; rintro e w' ⟨rfl, rfl⟩))
    refine bodyPost_ret (v := .agg #[.bool (cmpC a b), .bool (cmpP a b), .bool (cmpZ a b), .bool false, .bool false, .bool false]) (by rw [hC.out, hP.out, hZ.out]; simp [results, Try.results16, go_sem]) rfl ⟨rfl, below_last (Below.refl _ _) _⟩
  have nb' : nanB b = false := by simpa using nb
  clear nb
  obtain ⟨o, ho⟩ := order_some a b na' nb'
  obtain ⟨f1, f2, f3⟩ := fin _ ho
  have hC := Lib.hid f1
  have hP := Lib.hid f2
  have hZ := Lib.hid f3
  clear fin f1 f2 f3
  have hF : FloatKind.f64.format.order a b = some o := ho
  clear ho
  cases o
  all_goals
    go_enter Try.func16, Try.ntmps16
    go_wp2_with (first | (go_at_call 20; first | ((with_reducible refine (risnan_any a h1 _).mono ?_); rintro e w' ⟨rfl, rfl⟩) | ((with_reducible refine (risnan_any b k1 _).mono ?_); rintro e w' ⟨rfl, rfl⟩)) | (go_at_call 22; first | ((with_reducible refine (rquiet_any a h1 _).mono ?_); rintro e w' ⟨rfl, rfl⟩) | ((with_reducible refine (rquiet_any b k1 _).mono ?_); rintro e w' ⟨rfl, rfl⟩)) | (go_at_call 31; first | ((with_reducible refine (rzero_any a _).mono ?_); rintro e w' ⟨rfl, rfl⟩) | ((with_reducible refine (rzero_any b _).mono ?_); rintro e w' ⟨rfl, rfl⟩)) | (go_at_call 28; refine (hS _).mono ?_; rintro e w' ⟨rfl, rfl⟩))
    refine bodyPost_ret (v := .agg #[.bool (cmpC a b), .bool (cmpP a b), .bool (cmpZ a b), .bool false, .bool false, .bool false]) (by rw [hC.out, hP.out, hZ.out]; simp [results, Try.results16, go_sem]) rfl ⟨rfl, below_last (Below.refl _ _) _⟩
set_option maxHeartbeats 1000000 in
theorem rtoint_any (a : Nat) (h1 : a < 18446744073709551616) (w : World) : Calls Try.prog 18 #[.int .u64 (a : Int)] w fun e w' => e = .returned (.int .u32 (toN a)) ∧ Below w.heap.size w w' := by
  by_cases na : nanB a = true
  · have hV := Lib.hid (toN_nan a na)
    go_enter Try.func18, Try.ntmps18
    go_wp2_with (first | (go_at_call 20; first | ((with_reducible refine (risnan_any a h1 _).mono ?_); rintro e w' ⟨rfl, rfl⟩) | ((with_reducible refine (risnan_any b k1 _).mono ?_); rintro e w' ⟨rfl, rfl⟩)) | (go_at_call 22; first | ((with_reducible refine (rquiet_any a h1 _).mono ?_); rintro e w' ⟨rfl, rfl⟩) | ((with_reducible refine (rquiet_any b k1 _).mono ?_); rintro e w' ⟨rfl, rfl⟩)) | (go_at_call 31; first | ((with_reducible refine (rzero_any a _).mono ?_); rintro e w' ⟨rfl, rfl⟩) | ((with_reducible refine (rzero_any b _).mono ?_); rintro e w' ⟨rfl, rfl⟩)) | (go_at_call 28; refine (hS _).mono ?_; rintro e w' ⟨rfl, rfl⟩))
    go_ret
    exact ⟨by rw [hV.out]; rfl, below_same w⟩
  have na' : nanB a = false := by simpa using na
  clear na
  rcases toN_cases a na' with ⟨o1, o2, n, hO1, hO2, hn, c1, c2, n0, n1, hV'⟩ | ⟨o1, o2, hO1, hO2, hc, hV'⟩
  · have hV := Lib.hid hV'
    have hF1 : FloatKind.f64.format.order a 4746794007248502784 = some o1 := hO1
    have hF2 : FloatKind.f64.format.order a 13970166044105375744 = some o2 := hO2
    have hC : floatToIntVal .f64 a .i64 = some n := by
      unfold floatToIntVal
      rw [show FloatKind.f64.decode a = Ieee.double.read a from rfl, hn]
      simp only
      have e1 : IntKind.i64.min = -9223372036854775808 := by decide
      have e2 : IntKind.i64.max = 9223372036854775807 := by decide
      rw [if_pos (by omega)]
    have hCC := fun w : World => run_convert_float_int (P := Try.prog) w 47 2 .f64 .i64 a n (by rw [Try.underlying47]; rfl) Try.underlying2 hC
    subst c1 c2
    clear hO1 hO2 hn hV' hC
    go_enter Try.func18, Try.ntmps18
    go_wp2_with (first | (go_at_call 20; first | ((with_reducible refine (risnan_any a h1 _).mono ?_); rintro e w' ⟨rfl, rfl⟩) | ((with_reducible refine (risnan_any b k1 _).mono ?_); rintro e w' ⟨rfl, rfl⟩)) | (go_at_call 22; first | ((with_reducible refine (rquiet_any a h1 _).mono ?_); rintro e w' ⟨rfl, rfl⟩) | ((with_reducible refine (rquiet_any b k1 _).mono ?_); rintro e w' ⟨rfl, rfl⟩)) | (go_at_call 31; first | ((with_reducible refine (rzero_any a _).mono ?_); rintro e w' ⟨rfl, rfl⟩) | ((with_reducible refine (rzero_any b _).mono ?_); rintro e w' ⟨rfl, rfl⟩)) | (go_at_call 28; refine (hS _).mono ?_; rintro e w' ⟨rfl, rfl⟩))
    go_ret
    exact ⟨by rw [hV.out]; rfl, below_same w⟩
  · have hV := Lib.hid hV'
    have hF1 : FloatKind.f64.format.order a 4746794007248502784 = some o1 := hO1
    have hF2 : FloatKind.f64.format.order a 13970166044105375744 = some o2 := hO2
    clear hO1 hO2 hV'
    rcases hc with hc | ⟨rfl, hc⟩
    · cases o1
      case lt => exact absurd rfl hc
      all_goals
        clear hc
        go_enter Try.func18, Try.ntmps18
        go_wp2_with (first | (go_at_call 20; first | ((with_reducible refine (risnan_any a h1 _).mono ?_); rintro e w' ⟨rfl, rfl⟩) | ((with_reducible refine (risnan_any b k1 _).mono ?_); rintro e w' ⟨rfl, rfl⟩)) | (go_at_call 22; first | ((with_reducible refine (rquiet_any a h1 _).mono ?_); rintro e w' ⟨rfl, rfl⟩) | ((with_reducible refine (rquiet_any b k1 _).mono ?_); rintro e w' ⟨rfl, rfl⟩)) | (go_at_call 31; first | ((with_reducible refine (rzero_any a _).mono ?_); rintro e w' ⟨rfl, rfl⟩) | ((with_reducible refine (rzero_any b _).mono ?_); rintro e w' ⟨rfl, rfl⟩)) | (go_at_call 28; refine (hS _).mono ?_; rintro e w' ⟨rfl, rfl⟩))
        go_ret
        exact ⟨by rw [hV.out]; rfl, below_same w⟩
    · cases o2
      case gt => exact absurd rfl hc
      all_goals
        clear hc
        go_enter Try.func18, Try.ntmps18
        go_wp2_with (first | (go_at_call 20; first | ((with_reducible refine (risnan_any a h1 _).mono ?_); rintro e w' ⟨rfl, rfl⟩) | ((with_reducible refine (risnan_any b k1 _).mono ?_); rintro e w' ⟨rfl, rfl⟩)) | (go_at_call 22; first | ((with_reducible refine (rquiet_any a h1 _).mono ?_); rintro e w' ⟨rfl, rfl⟩) | ((with_reducible refine (rquiet_any b k1 _).mono ?_); rintro e w' ⟨rfl, rfl⟩)) | (go_at_call 31; first | ((with_reducible refine (rzero_any a _).mono ?_); rintro e w' ⟨rfl, rfl⟩) | ((with_reducible refine (rzero_any b _).mono ?_); rintro e w' ⟨rfl, rfl⟩)) | (go_at_call 28; refine (hS _).mono ?_; rintro e w' ⟨rfl, rfl⟩))
        go_ret
        exact ⟨by rw [hV.out]; rfl, below_same w⟩
end Go.Proofs.Ytjapmkaapciegaa
