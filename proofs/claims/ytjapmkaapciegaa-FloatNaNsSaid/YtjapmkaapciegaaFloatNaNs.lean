/- Not a number stays one, and which one it is: for every two words, each of the four operations. -/
import Derived.Test.YtjapmkaapciegaaKnown4
import Derived.Test.YtjapmkaapciegaaShut
namespace Go.Proofs.Ytjapmkaapciegaa
open Go.ChangeShapes Go.WideShapes Go.ChangeAt Go.RowKit

/-- The NaN that the statement makes of a word. -/
def madeNaN (b : Nat) : Nat := 9223372036854775808 * (b / 9223372036854775808 % 2) + (9218868437227405312 + (b % 4503599627370496 ||| 1))
theorem made_or (b : Nat) : (b &&& 4503599627370495 ||| 9218868437227405312 ||| (b &&& 9223372036854775808) ||| 1) = madeNaN b := by
  have e1 : b &&& 4503599627370495 = b % 4503599627370496 := Nat.and_two_pow_sub_one_eq_mod b 52
  have e2 : b &&& 9223372036854775808 = 9223372036854775808 * (b / 9223372036854775808 % 2) := by
    rw [show (9223372036854775808 : Nat) = 2 ^ 63 from rfl, nat_bit]
    have h2 : b / 2 ^ 63 % 2 = 0 ∨ b / 2 ^ 63 % 2 = 1 := by omega
    rcases h2 with h2 | h2 <;> rw [h2] <;> simp
  have hq : (b % 4503599627370496 ||| 1) < 2 ^ 52 := Nat.or_lt_two_pow (Nat.mod_lt _ (by decide)) (by decide)
  have hi : 9218868437227405312 ||| (b % 4503599627370496 ||| 1) = 9218868437227405312 + (b % 4503599627370496 ||| 1) := by
    have := Nat.two_pow_add_eq_or_of_lt hq 2047
    exact this.symm
  have hs : 9223372036854775808 * (b / 9223372036854775808 % 2) ||| (9218868437227405312 + (b % 4503599627370496 ||| 1)) = 9223372036854775808 * (b / 9223372036854775808 % 2) + (9218868437227405312 + (b % 4503599627370496 ||| 1)) := by
    have := Nat.two_pow_add_eq_or_of_lt (i := 63) (b := 9218868437227405312 + (b % 4503599627370496 ||| 1)) (by have : (2:Nat)^52 = 4503599627370496 := rfl; have : (2:Nat)^63 = 9223372036854775808 := rfl; omega) (b / 9223372036854775808 % 2)
    exact this.symm
  unfold madeNaN
  rw [e1, e2, ← hs, ← hi]
  apply Nat.eq_of_testBit_eq
  intro i
  simp only [Nat.testBit_or, Bool.or_assoc, Bool.or_comm]
theorem made_lt (b : Nat) : madeNaN b < 18446744073709551616 ∧ nanB (madeNaN b) = true := by
  have hq : (b % 4503599627370496 ||| 1) < 2 ^ 52 := Nat.or_lt_two_pow (Nat.mod_lt _ (by decide)) (by decide)
  have h1 : 1 ≤ (b % 4503599627370496 ||| 1) := Nat.right_le_or
  unfold madeNaN nanB
  rw [decide_eq_true_eq]
  generalize (b % 4503599627370496 ||| 1) = q at *
  have : (2:Nat)^52 = 4503599627370496 := rfl
  have h2 : b / 9223372036854775808 % 2 = 0 ∨ b / 9223372036854775808 % 2 = 1 := by omega
  rcases h2 with h2 | h2 <;> rw [h2] <;> omega
theorem made_bits (b : Nat) (b1 : b < 18446744073709551616) : bits .or .u64 (bits .or .u64 (bits .or .u64 (bits .and .u64 (b : Int) 4503599627370495) 9218868437227405312) (bits .and .u64 (b : Int) 9223372036854775808)) 1 = (madeNaN b : Nat) := by
  have g1 : b &&& 4503599627370495 < 18446744073709551616 := Nat.lt_of_le_of_lt Nat.and_le_left b1
  have g2 : b &&& 9223372036854775808 < 18446744073709551616 := Nat.lt_of_le_of_lt Nat.and_le_left b1
  have g3 : (b &&& 4503599627370495 ||| 9218868437227405312) < 2 ^ 64 := Nat.or_lt_two_pow g1 (by decide)
  have g4 : (b &&& 4503599627370495 ||| 9218868437227405312 ||| (b &&& 9223372036854775808)) < 2 ^ 64 := Nat.or_lt_two_pow g3 g2
  rw [show (4503599627370495 : Int) = ((4503599627370495 : Nat) : Int) from rfl, show (9223372036854775808 : Int) = ((9223372036854775808 : Nat) : Int) from rfl, show (9218868437227405312 : Int) = ((9218868437227405312 : Nat) : Int) from rfl, show (1 : Int) = ((1 : Nat) : Int) from rfl,
    u64_and_nat b _ b1 (by decide), u64_and_nat b _ b1 (by decide), u64_or_nat _ _ g1 (by decide), u64_or_nat _ _ g3 g2, u64_or_nat _ _ g4 (by decide), made_or]
theorem quiet_nan (a : Nat) (a1 : a < 18446744073709551616) : nanB (quietN a) = nanB a ∧ quietN a < 18446744073709551616 := by
  unfold quietN
  cases na : nanB a with
  | false => simp only [Bool.false_eq_true, if_false]; exact ⟨na, a1⟩
  | true =>
    simp only [if_true]
    refine ⟨?_, ?_⟩
    · unfold nanB at na ⊢
      rw [decide_eq_true_eq] at na ⊢
      have h1 : (a ||| 2251799813685248) % 9223372036854775808 = a % 9223372036854775808 ||| 2251799813685248 := by
        have := @Nat.or_mod_two_pow a 2251799813685248 63
        exact this
      rw [h1]
      exact Nat.lt_of_lt_of_le na Nat.left_le_or
    · have := Nat.or_lt_two_pow (x := a) (y := 2251799813685248) (n := 64) a1 (by decide)
      exact this
attribute [local go_sem] isSome_setCell flags_guard flags_eql flags_neq
set_option maxRecDepth 100000 in
set_option maxHeartbeats 4000000 in
theorem fnans_walk (k a b : Int) (w : World) (k0 : 0 ≤ k) (k1 : k < 256) (a0 : 0 ≤ a) (a1 : a < 18446744073709551616) (b0 : 0 ≤ b) (b1 : b < 18446744073709551616) :
    Calls Try.prog 5 #[.int .u8 k, .int .u64 a, .int .u64 b] w fun e w' => e = .returned (.bool true) ∧ Below w.heap.size w w' := by
  obtain ⟨a, rfl⟩ := Int.eq_ofNat_of_zero_le a0
  obtain ⟨b, rfl⟩ := Int.eq_ofNat_of_zero_le b0
  have a1' : a < 18446744073709551616 := by omega
  have b1' : b < 18446744073709551616 := by omega
  obtain ⟨j, hj⟩ : ∃ j : Nat, k % 4 = j := ⟨(k % 4).toNat, by omega⟩
  have hj4 : j < 4 := by omega
  have hn := made_bits b b1'
  obtain ⟨n1, nn⟩ := made_lt b
  generalize madeNaN b = n at *
  have hq := quiet_or n n1
  have hqn : quietN n = n ||| 2251799813685248 := by unfold quietN; rw [nn]; rfl
  obtain ⟨S2, hS2, hSn, hSa, hSl⟩ : ∃ S2 : Nat, (S2 = if nanB a then quietN a else quietN n) ∧ nanB S2 = true ∧ (nanB a = false → S2 = quietN n) ∧ S2 < 18446744073709551616 := by
    refine ⟨_, rfl, ?_, ?_, ?_⟩
    · cases na : nanB a with
      | true => simp only [if_true]; rw [(quiet_nan a a1').1, na]
      | false => simp only [Bool.false_eq_true, if_false]; rw [(quiet_nan n n1).1, nn]
    · intro na; rw [na]; rfl
    · split
      · exact (quiet_nan a a1').2
      · exact (quiet_nan n n1).2
  have hF : ∀ (op : Int) (bop : BinOp), fltN op n a = arithN bop n a → ∀ w : World, Calls Try.prog 13 #[.int .i64 op, .int .u64 (n : Int), .int .u64 (a : Int)] w fun e w' => e = .returned (.int .u64 (quietN n : Nat)) ∧ Below w.heap.size w w' := by
    intro op bop h w
    have g := fdo_any op n a n1 a1' w
    rw [h] at g
    unfold arithN at g
    rw [nn] at g
    exact g
  have hG : ∀ (op : Int) (bop : BinOp), fltN op a n = arithN bop a n → ∀ w : World, Calls Try.prog 13 #[.int .i64 op, .int .u64 (a : Int), .int .u64 (n : Int)] w fun e w' => e = .returned (.int .u64 (S2 : Nat)) ∧ Below w.heap.size w w' := by
    intro op bop h w
    have g := fdo_any op a n a1' n1 w
    rw [h] at g
    unfold arithN at g
    rw [nn] at g
    simp only [if_true] at g
    rw [← hS2] at g
    exact g
  have hM : ∀ w : World, Calls Try.prog 13 #[.int .i64 55, .int .u64 (n : Int), .int .u64 (a : Int)] w fun e w' => e = .returned (.int .u64 (a : Nat)) ∧ Below w.heap.size w w' := by
    intro w
    have g := fdo_any 55 n a n1 a1' w
    rw [show fltN 55 n a = a by show minN n a = a; unfold minN; rw [order_nan n a (.inl nn)]; rfl] at g
    exact g
  have hX : ∀ w : World, Calls Try.prog 13 #[.int .i64 57, .int .u64 (a : Int), .int .u64 (n : Int)] w fun e w' => e = .returned (.int .u64 (n : Nat)) ∧ Below w.heap.size w w' := by
    intro w
    have g := fdo_any 57 a n a1' n1 w
    rw [show fltN 57 a n = n by show maxN a n = n; unfold maxN; rw [order_nan a n (.inr nn)]; rfl] at g
    exact g
  have hR : ∀ w : World, Calls Try.prog 13 #[.int .i64 58, .int .u64 (a : Int), .int .u64 (n : Int)] w fun e w' => e = .returned (.int .u64 (quietN n : Nat)) ∧ Below w.heap.size w w' := by
    intro w
    have g := fdo_any 58 a n a1' n1 w
    rw [show fltN 58 a n = quietN n by show rootN n = quietN n; unfold rootN; rw [nn]; rfl] at g
    exact g
  have hC : ∀ w : World, Calls Try.prog 15 #[.int .u64 (a : Int), .int .u64 (n : Int)] w fun e w' => e = .returned (.agg #[.bool true, .bool true, .bool true, .bool false, .bool false, .bool false]) ∧ Below w.heap.size w w' := by
    intro w
    have g := fcompare_any a n a1' n1 w
    unfold cmpC cmpP cmpZ at g
    rw [order_nan a n (.inr nn)] at g
    exact g
  have hI := fisnan_any a a1'
  have hJ := fisnan_any S2 hSl
  rw [hSn] at hJ
  rw [← hqn] at hq
  generalize quietN n = Q at *
  have hSQ := Lib.hid hSa
  clear hS2 hSn hSa hqn
  obtain rfl | rfl | rfl | rfl : j = 0 ∨ j = 1 ∨ j = 2 ∨ j = 3 := by omega
  · have hF' := hF 52 .add rfl
    have hG' := hG 52 .add rfl
    clear hF hG hj4
    go_enter Try.func5, Try.ntmps5
    go_wp2_with (go_at_call 11; refine (known4_any _).mono ?_; rintro e w0 ⟨rfl, B0⟩)
    refine (hF' _).mono ?_
    rintro e w1 ⟨rfl, hb1⟩
    have B1 := below_next B0 hb1
    go_wp2_with fail
    refine (hG' _).mono ?_
    rintro e w2 ⟨rfl, hb2⟩
    have B2 := B1.trans (hb2.mono B1.size)
    go_wp2_with fail
    refine (hJ _).mono ?_
    rintro e w3 ⟨rfl, hb3⟩
    have B3 := B2.trans (hb3.mono B2.size)
    go_wp2_with fail
    refine (hI _).mono ?_
    rintro e w4 ⟨rfl, hb4⟩
    have B4 := B3.trans (hb4.mono B3.size)
    clear B0 B1 B2 B3 hb1 hb2 hb3 hb4 hF' hG' hI hJ
    have hs : nanB a = true ∨ (nanB a = false ∧ ((S2 : Int) != (Q : Int)) = false) := by
      cases na : nanB a with
      | true => exact .inl rfl
      | false => exact .inr ⟨rfl, by rw [hSQ.out na]; simp⟩
    rcases hs with na | ⟨na, hs⟩
    all_goals
      go_wp2_with fail
      refine (hM _).mono ?_
      rintro e w5 ⟨rfl, hb5⟩
      have B5 := B4.trans (hb5.mono B4.size)
      go_wp2_with fail
      refine (hX _).mono ?_
      rintro e w6 ⟨rfl, hb6⟩
      have B6 := B5.trans (hb6.mono B5.size)
      go_wp2_with fail
      refine (hR _).mono ?_
      rintro e w7 ⟨rfl, hb7⟩
      have B7 := B6.trans (hb7.mono B6.size)
      go_wp2_with fail
      refine (hC _).mono ?_
      rintro e w8 ⟨rfl, hb8⟩
      have B8 := B7.trans (hb8.mono B7.size)
      go_wp2_with fail
      go_ret
      exact ⟨by simp, B8⟩
  · have hF' := hF 54 .sub rfl
    have hG' := hG 54 .sub rfl
    clear hF hG hj4
    go_enter Try.func5, Try.ntmps5
    go_wp2_with (go_at_call 11; refine (known4_any _).mono ?_; rintro e w0 ⟨rfl, B0⟩)
    refine (hF' _).mono ?_
    rintro e w1 ⟨rfl, hb1⟩
    have B1 := below_next B0 hb1
    go_wp2_with fail
    refine (hG' _).mono ?_
    rintro e w2 ⟨rfl, hb2⟩
    have B2 := B1.trans (hb2.mono B1.size)
    go_wp2_with fail
    refine (hJ _).mono ?_
    rintro e w3 ⟨rfl, hb3⟩
    have B3 := B2.trans (hb3.mono B2.size)
    go_wp2_with fail
    refine (hI _).mono ?_
    rintro e w4 ⟨rfl, hb4⟩
    have B4 := B3.trans (hb4.mono B3.size)
    clear B0 B1 B2 B3 hb1 hb2 hb3 hb4 hF' hG' hI hJ
    have hs : nanB a = true ∨ (nanB a = false ∧ ((S2 : Int) != (Q : Int)) = false) := by
      cases na : nanB a with
      | true => exact .inl rfl
      | false => exact .inr ⟨rfl, by rw [hSQ.out na]; simp⟩
    rcases hs with na | ⟨na, hs⟩
    all_goals
      go_wp2_with fail
      refine (hM _).mono ?_
      rintro e w5 ⟨rfl, hb5⟩
      have B5 := B4.trans (hb5.mono B4.size)
      go_wp2_with fail
      refine (hX _).mono ?_
      rintro e w6 ⟨rfl, hb6⟩
      have B6 := B5.trans (hb6.mono B5.size)
      go_wp2_with fail
      refine (hR _).mono ?_
      rintro e w7 ⟨rfl, hb7⟩
      have B7 := B6.trans (hb7.mono B6.size)
      go_wp2_with fail
      refine (hC _).mono ?_
      rintro e w8 ⟨rfl, hb8⟩
      have B8 := B7.trans (hb8.mono B7.size)
      go_wp2_with fail
      go_ret
      exact ⟨by simp, B8⟩
  · have hF' := hF 53 .mul rfl
    have hG' := hG 53 .mul rfl
    clear hF hG hj4
    go_enter Try.func5, Try.ntmps5
    go_wp2_with (go_at_call 11; refine (known4_any _).mono ?_; rintro e w0 ⟨rfl, B0⟩)
    refine (hF' _).mono ?_
    rintro e w1 ⟨rfl, hb1⟩
    have B1 := below_next B0 hb1
    go_wp2_with fail
    refine (hG' _).mono ?_
    rintro e w2 ⟨rfl, hb2⟩
    have B2 := B1.trans (hb2.mono B1.size)
    go_wp2_with fail
    refine (hJ _).mono ?_
    rintro e w3 ⟨rfl, hb3⟩
    have B3 := B2.trans (hb3.mono B2.size)
    go_wp2_with fail
    refine (hI _).mono ?_
    rintro e w4 ⟨rfl, hb4⟩
    have B4 := B3.trans (hb4.mono B3.size)
    clear B0 B1 B2 B3 hb1 hb2 hb3 hb4 hF' hG' hI hJ
    have hs : nanB a = true ∨ (nanB a = false ∧ ((S2 : Int) != (Q : Int)) = false) := by
      cases na : nanB a with
      | true => exact .inl rfl
      | false => exact .inr ⟨rfl, by rw [hSQ.out na]; simp⟩
    rcases hs with na | ⟨na, hs⟩
    all_goals
      go_wp2_with fail
      refine (hM _).mono ?_
      rintro e w5 ⟨rfl, hb5⟩
      have B5 := B4.trans (hb5.mono B4.size)
      go_wp2_with fail
      refine (hX _).mono ?_
      rintro e w6 ⟨rfl, hb6⟩
      have B6 := B5.trans (hb6.mono B5.size)
      go_wp2_with fail
      refine (hR _).mono ?_
      rintro e w7 ⟨rfl, hb7⟩
      have B7 := B6.trans (hb7.mono B6.size)
      go_wp2_with fail
      refine (hC _).mono ?_
      rintro e w8 ⟨rfl, hb8⟩
      have B8 := B7.trans (hb8.mono B7.size)
      go_wp2_with fail
      go_ret
      exact ⟨by simp, B8⟩
  · have hF' := hF 56 .quo rfl
    have hG' := hG 56 .quo rfl
    clear hF hG hj4
    go_enter Try.func5, Try.ntmps5
    go_wp2_with (go_at_call 11; refine (known4_any _).mono ?_; rintro e w0 ⟨rfl, B0⟩)
    refine (hF' _).mono ?_
    rintro e w1 ⟨rfl, hb1⟩
    have B1 := below_next B0 hb1
    go_wp2_with fail
    refine (hG' _).mono ?_
    rintro e w2 ⟨rfl, hb2⟩
    have B2 := B1.trans (hb2.mono B1.size)
    go_wp2_with fail
    refine (hJ _).mono ?_
    rintro e w3 ⟨rfl, hb3⟩
    have B3 := B2.trans (hb3.mono B2.size)
    go_wp2_with fail
    refine (hI _).mono ?_
    rintro e w4 ⟨rfl, hb4⟩
    have B4 := B3.trans (hb4.mono B3.size)
    clear B0 B1 B2 B3 hb1 hb2 hb3 hb4 hF' hG' hI hJ
    have hs : nanB a = true ∨ (nanB a = false ∧ ((S2 : Int) != (Q : Int)) = false) := by
      cases na : nanB a with
      | true => exact .inl rfl
      | false => exact .inr ⟨rfl, by rw [hSQ.out na]; simp⟩
    rcases hs with na | ⟨na, hs⟩
    all_goals
      go_wp2_with fail
      refine (hM _).mono ?_
      rintro e w5 ⟨rfl, hb5⟩
      have B5 := B4.trans (hb5.mono B4.size)
      go_wp2_with fail
      refine (hX _).mono ?_
      rintro e w6 ⟨rfl, hb6⟩
      have B6 := B5.trans (hb6.mono B5.size)
      go_wp2_with fail
      refine (hR _).mono ?_
      rintro e w7 ⟨rfl, hb7⟩
      have B7 := B6.trans (hb7.mono B6.size)
      go_wp2_with fail
      refine (hC _).mono ?_
      rintro e w8 ⟨rfl, hb8⟩
      have B8 := B7.trans (hb8.mono B7.size)
      go_wp2_with fail
      go_ret
      exact ⟨by simp, B8⟩

theorem floatNaNs_own : ownKnob Try.prog.godebug = none := by kernel_rfl
set_option maxRecDepth 100000 in
theorem floatNaNs_lifted (os : Os) (started : os.Started) (H : Type) (enc : TypeId × Value → H) :
    ReturnsInHanded {} Try.checked os 5 .any (Rows.floatNaNsSpec.pre6 enc Try.prog Try.f5 Rows.floatNaNsRow.domain false) (Rows.floatNaNsSpec.post enc Try.prog Try.f5 false true false false) := by
  refine returnsInHanded_of_change (C := Try.checked) floatNaNs_own started (by kernel_rfl) Try.func5
    (ChangeSpec.witness6 (enc := enc) (C := Try.checked) false ⟨#[], #[.int .u8 0, .int .u64 0, .int .u64 0], []⟩ 8 (by kernel_rfl) (by kernel_rfl) (by kernel_rfl) (by kernel_rfl)) ?_
  intro W base args ds gs before hval0 hW hcnd _
  have hval : ∀ (j : Nat) t v, Try.f5.params[j]? = some t → args[j]? = some v → Value.okWide Try.prog W .any base t v := hval0
  have hW' := hW
  obtain ⟨p, q, hA0, hV, rfl, hfz, hnd⟩ := hW
  have hA : DataW.TrodAll enc Try.prog W 0 (fun _ => true) true Try.f5.params.toList args.toList ds p := hA0
  rw [Try.params5] at hA hval
  obtain ⟨v0, vs0, d0, ds0, p0, q0, hargs, rfl, rfl, h0, r0⟩ := trodAll_cons hA
  obtain ⟨v1, vs1, d1, ds1, p1, q1, rfl, rfl, rfl, h1, r1⟩ := trodAll_cons r0
  obtain ⟨v2, vs2, d2, ds2, p2, q2, rfl, rfl, rfl, h2, r2⟩ := trodAll_cons r1
  obtain ⟨rfl, rfl, rfl⟩ := trodAll_nil r2
  obtain rfl : args = #[v0, v1, v2] := by cases args; simp_all
  obtain ⟨rfl, rfl⟩ := trodVars_none hV
  obtain ⟨a0, rfl, rfl, rfl, w0⟩ := open_int Try.underlying5 (hval 0 5 v0 rfl rfl) h0
  obtain ⟨a1, rfl, rfl, rfl, w1⟩ := open_int Try.underlying22 (hval 1 22 v1 rfl rfl) h1
  obtain ⟨a2, rfl, rfl, rfl, w2⟩ := open_int Try.underlying22 (hval 2 22 v2 rfl rfl) h2
  clear hA0 hval0
  simp only [List.append_nil] at hW'
  have b0 : 0 ≤ a0 ∧ a0 < 256 := by
    have h := w0
    simp only [Lit.wf, Bool.and_eq_true, decide_eq_true_eq] at h
    have e1 : IntKind.u8.min = 0 := by decide
    have e2 : IntKind.u8.max = 255 := by decide
    omega
  have b1 : 0 ≤ a1 ∧ a1 < 18446744073709551616 := by
    have h := w1
    simp only [Lit.wf, Bool.and_eq_true, decide_eq_true_eq] at h
    have e1 : IntKind.u64.min = 0 := by decide
    have e2 : IntKind.u64.max = 18446744073709551615 := by decide
    omega
  have b2 : 0 ≤ a2 ∧ a2 < 18446744073709551616 := by
    have h := w2
    simp only [Lit.wf, Bool.and_eq_true, decide_eq_true_eq] at h
    have e1 : IntKind.u64.min = 0 := by decide
    have e2 : IntKind.u64.max = 18446744073709551615 := by decide
    omega
  refine (fnans_walk a0 a1 a2 W b0.1 b0.2 b1.1 b1.2 b2.1 b2.2).mono fun e W' ⟨he, hg⟩ => ?_
  subst he
  exact ⟨_, rfl, post_plain hW' hg (fun sp => (trodAll_cons_mk (shut_int Try.underlying5 w0) (trodAll_cons_mk (shut_int Try.underlying22 w1) (trodAll_cons_mk (shut_int Try.underlying22 w2) trodAll_mk0)))) (fun _ => rfl)
    (fun _ _ _ => (trodAll_cons_mk (shut_bool Try.underlying4 _) trodAll_mk0)) (ok_one (by kernel_rfl) rfl (okWide_bool_mk Try.underlying4 _))⟩

theorem floatNaNs_holds : Rows.FloatNaNsSaid :=
  OpenClaim.holds_of_wide 5 Try.f5 rfl rfl rfl rfl rfl rfl rfl ⟨rfl, rfl, rfl, rfl, rfl⟩ rfl rfl rfl rfl rfl (by kernel_rfl) Try.func5 (by kernel_rfl)
    (of_decide_eq_true (by kernel_rfl)) (by unfold Func.isWrapper; first | (rw [if_pos (by decide +kernel)]; kernel_rfl) | (rw [if_neg (by decide +kernel)]; exact ⟨rfl, rfl⟩))
    (fun os started H enc _ => floatNaNs_lifted os started H enc)
#print axioms floatNaNs_holds
end Go.Proofs.Ytjapmkaapciegaa
