/- Signs go as they must: quotients towards nought, rests with the sign of what is divided: for every two signed numbers of 32 bits. -/
import Derived.Test.YtahmclgegbinbaaKnown3
import Derived.Test.YtahmclgegbinbaaShut
namespace Go.Proofs.Ytahmclgegbinbaa
open Go.ChangeShapes Go.WideShapes Go.ChangeAt Go.RowKit

theorem sign_both (a : Int) (h0 : -2147483648 ≤ a) (h1 : a ≤ 2147483647) : idN (a / 2147483648 % 4294967296) (a % 4294967296) = a := by
  unfold idN both wrap64
  rcases Int.lt_or_le a 0 with h | h
  · rw [show a / 2147483648 = -1 by omega]; omega
  · rw [show a / 2147483648 = 0 by omega]; omega
theorem sign_wrap (b : Int) (h0 : -2147483648 ≤ b) (h1 : b ≤ 2147483647) : wrap32 (b % 4294967296) = b := by
  unfold wrap32; omega
/-- There is no quotient. -/
theorem s_no (a b : Int) (a0 : -2147483648 ≤ a) (a1 : a ≤ 2147483647) (b0 : -2147483648 ≤ b) (b1 : b ≤ 2147483647) (hx : b = 0 ∨ a = -2147483648 ∧ b = -1) (w : World) :
    Calls Try.prog 17 #[.int .u32 (a / 2147483648 % 4294967296), .int .u32 (a % 4294967296), .int .u32 (b % 4294967296)] w fun e w' =>
   e = .returned (.tuple #[.int .u32 0, .int .u32 0, .bool false]) ∧ Below w.heap.size w w' := by
  have g := idiv_any (a / 2147483648 % 4294967296) (a % 4294967296) (b % 4294967296) (by omega) (by omega) (by omega) (by omega) (by omega) (by omega) w
  have hk : idOk (a / 2147483648 % 4294967296) (a % 4294967296) (b % 4294967296) = false := by
    unfold idOk
    rw [sign_both a a0 a1, sign_wrap b b0 b1]
    rcases hx with rfl | ⟨rfl, rfl⟩
    · simp
    · decide
  unfold idQ idR at g
  rw [hk] at g
  exact g
theorem tdiv_fits (a b : Int) (a0 : -2147483648 ≤ a) (a1 : a ≤ 2147483647) (hx : ¬ (a = -2147483648 ∧ b = -1)) : -2147483648 ≤ a.tdiv b ∧ a.tdiv b ≤ 2147483647 := by
  have h := tdiv_abs a b
  by_cases hn : a = -2147483648
  · have hd : b ≠ -1 := fun e => hx ⟨hn, e⟩
    subst hn
    refine ⟨by omega, ?_⟩
    have e : ((-2147483648 : Int).tdiv b).natAbs = 2147483648 / b.natAbs := by rw [Int.natAbs_tdiv]; rfl
    by_cases h1 : b.natAbs = 1
    · have : b = 1 := by omega
      subst this
      decide
    · have : 2147483648 / b.natAbs ≤ 2147483647 := by
        by_cases h0 : b.natAbs = 0
        · rw [h0]; decide
        · exact Nat.le_of_lt_succ (Nat.div_lt_self (by decide) (by omega))
      omega
  · omega
/-- There is one. -/
theorem s_yes (a b : Int) (a0 : -2147483648 ≤ a) (a1 : a ≤ 2147483647) (b0 : -2147483648 ≤ b) (b1 : b ≤ 2147483647) (hb : b ≠ 0) (hx : ¬ (a = -2147483648 ∧ b = -1)) (w : World) :
    Calls Try.prog 17 #[.int .u32 (a / 2147483648 % 4294967296), .int .u32 (a % 4294967296), .int .u32 (b % 4294967296)] w fun e w' =>
   ∃ q r : Int, (-2147483648 ≤ q ∧ q ≤ 2147483647 ∧ -2147483648 ≤ r ∧ r ≤ 2147483647 ∧ q * b + r = a ∧ (r = 0 ∨ (decide (r < 0) = decide (a < 0)))) ∧
   e = .returned (.tuple #[.int .u32 (q % 4294967296), .int .u32 (r % 4294967296), .bool true]) ∧ Below w.heap.size w w' := by
  have g := idiv_any (a / 2147483648 % 4294967296) (a % 4294967296) (b % 4294967296) (by omega) (by omega) (by omega) (by omega) (by omega) (by omega) w
  obtain ⟨q0, q1⟩ := tdiv_fits a b a0 a1 hx
  obtain ⟨r0, r1⟩ := tmod_32 a b b0 b1 hb
  have hk : idOk (a / 2147483648 % 4294967296) (a % 4294967296) (b % 4294967296) = true := by
    unfold idOk
    rw [sign_both a a0 a1, sign_wrap b b0 b1]
    simp only [decide_eq_true_eq]
    exact ⟨hb, q0, q1⟩
  unfold idQ idR at g
  rw [hk, if_pos rfl, if_pos rfl, sign_both a a0 a1, sign_wrap b b0 b1] at g
  refine g.mono fun _ _ ⟨g1, g2⟩ => ⟨a.tdiv b, a.tmod b, ⟨q0, q1, by omega, by omega, ?_, ?_⟩, g1, g2⟩
  · rw [Int.mul_comm]; exact Int.mul_tdiv_add_tmod a b
  · rcases Int.lt_or_le a 0 with h | h
    · have : a.tmod b ≤ 0 := by
        have := Int.tmod_nonneg b (show 0 ≤ -a by omega)
        rw [Int.neg_tmod] at this
        omega
      by_cases hz : a.tmod b = 0
      · left; exact hz
      · right; rw [decide_eq_true h, decide_eq_true (by omega)]
    · have := Int.tmod_nonneg b h
      right; rw [decide_eq_false (by omega), decide_eq_false (by omega)]


set_option maxRecDepth 100000 in
set_option maxHeartbeats 4000000 in
theorem isigns_no (a b : Int) (w : World) (a0 : -2147483648 ≤ a) (a1 : a ≤ 2147483647) (b0 : -2147483648 ≤ b) (b1 : b ≤ 2147483647) (hx : b = 0 ∨ a = -2147483648 ∧ b = -1) :
    Calls Try.prog 6 #[.int .i32 a, .int .i32 b] w fun e w' => e = .returned (.bool true) ∧ Below w.heap.size w w' := by
  have hI := s_no a b a0 a1 b0 b1 hx
  rcases hx with rfl | ⟨rfl, rfl⟩
  all_goals
    go_enter Try.func6, Try.ntmps6
    go_wp2_with (go_at_call 9; refine (known3_any _).mono ?_; rintro e w1 ⟨rfl, B1⟩)
    refine (hI _).mono ?_
    rintro e w2 ⟨rfl, hb2⟩
    go_wp2_with fail
    go_ret
    exact ⟨by simp, B1.trans (hb2.mono B1.size)⟩
set_option maxRecDepth 100000 in
set_option maxHeartbeats 4000000 in
theorem isigns_yes (a b : Int) (w : World) (a0 : -2147483648 ≤ a) (a1 : a ≤ 2147483647) (b0 : -2147483648 ≤ b) (b1 : b ≤ 2147483647) (hx : ¬ (b = 0 ∨ a = -2147483648 ∧ b = -1)) :
    Calls Try.prog 6 #[.int .i32 a, .int .i32 b] w fun e w' => e = .returned (.bool true) ∧ Below w.heap.size w w' := by
  have hI := s_yes a b a0 a1 b0 b1 (fun e => hx (.inl e)) (fun e => hx (.inr e))
  have hz : (b == 0) = false := by rw [beq_eq_false_iff_ne]; exact fun e => hx (.inl e)
  have hm : (a == -2147483648) = false ∨ ((a == -2147483648) = true ∧ (b == -1) = false) := by
    by_cases hn : a = -2147483648
    · right; exact ⟨by rw [beq_iff_eq]; exact hn, by rw [beq_eq_false_iff_ne]; exact fun e => hx (.inr ⟨hn, e⟩)⟩
    · left; rw [beq_eq_false_iff_ne]; exact hn
  clear hx
  rcases hm with hm | ⟨hm, hm2⟩
  all_goals
    go_enter Try.func6, Try.ntmps6
    go_wp2_with (go_at_call 9; refine (known3_any _).mono ?_; rintro e w1 ⟨rfl, B1⟩)
    refine (hI _).mono ?_
    rintro e w2 ⟨q, r, ⟨q0, q1, r0, r1, hq, hs⟩, rfl, hb2⟩
    have hqb : q * b = a - r := by omega
    have hq2 : wrap32 (q % 4294967296) = q := sign_wrap q q0 q1
    have hr2 : wrap32 (r % 4294967296) = r := sign_wrap r r0 r1
    have hB := B1.trans (hb2.mono B1.size)
    clear hb2 B1 hI hq
    by_cases hr : r = 0
    · clear hs
      subst hr
      go_wp2_with fail
      go_ret
      exact ⟨by simp, hB⟩
    · have hrz : (r % 4294967296 == 0) = false := by rw [beq_eq_false_iff_ne]; omega
      have hs' := hs.resolve_left hr
      clear hs hr
      by_cases hrn : r < 0
      · have han : a < 0 := of_decide_eq_true (by rw [← hs']; exact decide_eq_true hrn)
        clear hs'
        go_wp2_with fail
        go_ret
        exact ⟨by simp, hB⟩
      · have han : ¬ a < 0 := of_decide_eq_false (by rw [← hs']; exact decide_eq_false hrn)
        clear hs'
        go_wp2_with fail
        go_ret
        exact ⟨by simp <;> omega, hB⟩
theorem isigns_walk (a b : Int) (w : World) (a0 : -2147483648 ≤ a) (a1 : a ≤ 2147483647) (b0 : -2147483648 ≤ b) (b1 : b ≤ 2147483647) :
    Calls Try.prog 6 #[.int .i32 a, .int .i32 b] w fun e w' => e = .returned (.bool true) ∧ Below w.heap.size w w' := by
  by_cases hx : b = 0 ∨ a = -2147483648 ∧ b = -1
  · exact isigns_no a b w a0 a1 b0 b1 hx
  · exact isigns_yes a b w a0 a1 b0 b1 hx

theorem idivSigns_own : ownKnob Try.prog.godebug = none := by kernel_rfl
set_option maxRecDepth 100000 in
theorem idivSigns_lifted (os : Os) (started : os.Started) (H : Type) (enc : TypeId × Value → H) :
    ReturnsInHanded {} Try.checked os 6 .any (Rows.idivSignsSpec.pre6 enc Try.prog Try.f6 Rows.idivSignsRow.domain false) (Rows.idivSignsSpec.post enc Try.prog Try.f6 false true false false) := by
  refine returnsInHanded_of_change (C := Try.checked) idivSigns_own started (by kernel_rfl) Try.func6
    (ChangeSpec.witness6 (enc := enc) (C := Try.checked) false ⟨#[], #[.int .i32 0, .int .i32 0], []⟩ 8 (by kernel_rfl) (by kernel_rfl) (by kernel_rfl) (by kernel_rfl)) ?_
  intro W base args ds gs before hval0 hW hcnd _
  have hval : ∀ (j : Nat) t v, Try.f6.params[j]? = some t → args[j]? = some v → Value.okWide Try.prog W .any base t v := hval0
  have hW' := hW
  obtain ⟨p, q, hA0, hV, rfl, hfz, hnd⟩ := hW
  have hA : DataW.TrodAll enc Try.prog W 0 (fun _ => true) true Try.f6.params.toList args.toList ds p := hA0
  rw [Try.params6] at hA hval
  obtain ⟨v0, vs0, d0, ds0, p0, q0, hargs, rfl, rfl, h0, r0⟩ := trodAll_cons hA
  obtain ⟨v1, vs1, d1, ds1, p1, q1, rfl, rfl, rfl, h1, r1⟩ := trodAll_cons r0
  obtain ⟨rfl, rfl, rfl⟩ := trodAll_nil r1
  obtain rfl : args = #[v0, v1] := by cases args; simp_all
  obtain ⟨rfl, rfl⟩ := trodVars_none hV
  obtain ⟨a0, rfl, rfl, rfl, w0⟩ := open_int Try.underlying21 (hval 0 21 v0 rfl rfl) h0
  obtain ⟨a1, rfl, rfl, rfl, w1⟩ := open_int Try.underlying21 (hval 1 21 v1 rfl rfl) h1
  clear hA0 hval0
  simp only [List.append_nil] at hW'
  have b0 : -2147483648 ≤ a0 ∧ a0 ≤ 2147483647 := by
    have h := w0
    simp only [Lit.wf, Bool.and_eq_true, decide_eq_true_eq] at h
    have e1 : IntKind.i32.min = -2147483648 := by decide
    have e2 : IntKind.i32.max = 2147483647 := by decide
    omega
  have b1 : -2147483648 ≤ a1 ∧ a1 ≤ 2147483647 := by
    have h := w1
    simp only [Lit.wf, Bool.and_eq_true, decide_eq_true_eq] at h
    have e1 : IntKind.i32.min = -2147483648 := by decide
    have e2 : IntKind.i32.max = 2147483647 := by decide
    omega
  refine (isigns_walk a0 a1 W b0.1 b0.2 b1.1 b1.2).mono fun e W' ⟨he, hg⟩ => ?_
  subst he
  exact ⟨_, rfl, post_plain hW' hg (fun sp => (trodAll_cons_mk (shut_int Try.underlying21 w0) (trodAll_cons_mk (shut_int Try.underlying21 w1) trodAll_mk0))) (fun _ => rfl)
    (fun _ _ _ => (trodAll_cons_mk (shut_bool Try.underlying4 _) trodAll_mk0)) (ok_one (by kernel_rfl) rfl (okWide_bool_mk Try.underlying4 _))⟩

theorem idivSigns_holds : Rows.IdivSignsSaid :=
  OpenClaim.holds_of_wide 6 Try.f6 rfl rfl rfl rfl rfl rfl rfl ⟨rfl, rfl, rfl, rfl, rfl⟩ rfl rfl rfl rfl rfl (by kernel_rfl) Try.func6 (by kernel_rfl)
    (of_decide_eq_true (by kernel_rfl)) (by unfold Func.isWrapper; first | (rw [if_pos (by decide +kernel)]; kernel_rfl) | (rw [if_neg (by decide +kernel)]; exact ⟨rfl, rfl⟩))
    (fun os started H enc _ => idivSigns_lifted os started H enc)
#print axioms idivSigns_holds
end Go.Proofs.Ytahmclgegbinbaa
