/- A product by one of its numbers, with any rest, is the other one and that rest. -/
import Derived.Test.YtahmclgegbinbaaKnown3
import Derived.Test.YtahmclgegbinbaaShut
namespace Go.Proofs.Ytahmclgegbinbaa
open Go.ChangeShapes Go.WideShapes Go.ChangeAt Go.RowKit

theorem back_hi (a d r : Int) (a0 : 0 ≤ a) (a1 : a < 4294967296) (d0 : 0 < d) (d1 : d < 4294967296) (r0 : 0 ≤ r) (r1 : r < d) :
    0 ≤ a * d + r ∧ a * d + r < 4294967296 * d ∧ 4294967296 * d < 18446744073709551616 := by
  have h1 : 0 ≤ a * d := Int.mul_nonneg a0 (by omega)
  have h2 : a * d ≤ 4294967295 * d := Int.mul_le_mul_of_nonneg_right (by omega) (by omega)
  omega
theorem back_any (a d r : Int) (a0 : 0 ≤ a) (a1 : a < 4294967296) (d0 : 0 < d) (d1 : d < 4294967296) (r0 : 0 ≤ r) (r1 : r < d) (w : World) :
    Calls Try.prog 15 #[.int .u32 ((a * d + r) / 4294967296), .int .u32 ((a * d + r) % 4294967296), .int .u32 d] w fun e w' =>
   e = .returned (.tuple #[.int .u32 a, .int .u32 r, .bool true]) ∧ Below w.heap.size w w' := by
  obtain ⟨s0, s1, s2⟩ := back_hi a d r a0 a1 d0 d1 r0 r1
  have g := div_any ((a * d + r) / 4294967296) ((a * d + r) % 4294967296) d (by omega) (by omega) (by omega) (by omega) (by omega) d1 w
  have hd : (a * d + r) / 4294967296 < d := by omega
  have hb : both ((a * d + r) / 4294967296) ((a * d + r) % 4294967296) = a * d + r := by unfold both; omega
  unfold divQ divR divOk at g
  rw [if_pos hd, if_pos hd, decide_eq_true hd, hb, show (a * d + r) / d = a by rw [Int.add_comm, Int.add_mul_ediv_right _ _ (by omega), Int.ediv_eq_zero_of_lt r0 r1]; omega,
    show (a * d + r) % d = r by rw [Int.add_comm, Int.add_mul_emod_self_right]; exact Int.emod_eq_of_lt r0 r1] at g
  exact g

attribute [local go_sem] isSome_setCell
set_option maxRecDepth 100000 in
set_option maxHeartbeats 4000000 in
theorem divback_walk (a d v : Int) (w : World) (a0 : 0 ≤ a) (a1 : a < 4294967296) (d0 : 0 ≤ d) (d1 : d < 4294967296) (v0 : 0 ≤ v) (v1 : v < 4294967296) :
    Calls Try.prog 5 #[.int .u32 a, .int .u32 d, .int .u32 v] w fun e w' => e = .returned (.bool true) ∧ Below w.heap.size w w' := by
  by_cases hz : d = 0
  · have hz' : (d == 0) = true := by rw [beq_iff_eq]; exact hz
    clear hz
    go_enter Try.func5, Try.ntmps5
    go_wp2_with (go_at_call 9; refine (known3_any _).mono ?_; rintro e w1 ⟨rfl, B1⟩)
    go_ret
    exact ⟨rfl, B1⟩
  · have hz' : (d == 0) = false := by rw [beq_eq_false_iff_ne]; exact hz
    have dp : 0 < d := by omega
    have r0 : 0 ≤ v % d := Int.emod_nonneg _ hz
    have r1 : v % d < d := Int.emod_lt_of_pos _ dp
    have r2 : v % d < 4294967296 := by omega
    obtain ⟨s0, s1, s2⟩ := back_hi a d (v % d) a0 a1 dp d1 r0 r1
    have hD := back_any a d (v % d) a0 a1 dp d1 r0 r1
    have m0 := mul_lo a d a0 d0
    have m1 := mul_hi a d a1 d0 d1
    have hM := mul_any false false false false false false a d a0 a1 d0 d1
    have hO : bits .or .u64 (a * d / 4294967296 * 4294967296) (a * d % 4294967296) = a * d := by
      rw [both_or _ _ (by omega) (by omega) (by omega) (by omega)]; unfold both; omega
    unfold mulH mulL at hM
    generalize mulC a d = C at *
    clear hz
    generalize hP : a * d = P at *
    generalize hR : v % d = R at *
    go_enter Try.func5, Try.ntmps5
    go_wp2_with (go_at_call 9; refine (known3_any _).mono ?_; rintro e w1 ⟨rfl, B1⟩)
    refine (hM _).mono ?_
    rintro e w2 ⟨rfl, hb2⟩
    have B2 := B1.trans (hb2.mono B1.size)
    clear hM
    go_wp2_with fail
    refine (hD _).mono ?_
    rintro e w3 ⟨rfl, hb3⟩
    go_wp2_with fail
    go_ret
    exact ⟨by simp, below_next B2 hb3⟩

theorem divBack_own : ownKnob Try.prog.godebug = none := by kernel_rfl
set_option maxRecDepth 100000 in
theorem divBack_lifted (os : Os) (started : os.Started) (H : Type) (enc : TypeId × Value → H) :
    ReturnsInHanded {} Try.checked os 5 .any (Rows.divBackSpec.pre6 enc Try.prog Try.f5 Rows.divBackRow.domain false) (Rows.divBackSpec.post enc Try.prog Try.f5 false true false false) := by
  refine returnsInHanded_of_change (C := Try.checked) divBack_own started (by kernel_rfl) Try.func5
    (ChangeSpec.witness6 (enc := enc) (C := Try.checked) false ⟨#[], #[.int .u32 0, .int .u32 0, .int .u32 0], []⟩ 8 (by kernel_rfl) (by kernel_rfl) (by kernel_rfl) (by kernel_rfl)) ?_
  intro W base args ds gs before hval0 hW hcnd _
  have hval : ∀ (j : Nat) t v, Try.f5.params[j]? = some t → args[j]? = some v → Value.okWide Try.prog W .any base t v := hval0
  have hW' := hW
  obtain ⟨p, q, hA0, hV, rfl, hfz, hnd⟩ := hW
  have hA : DataW.TrodAll enc Try.prog W 0 (fun _ => true) true Try.f5.params.toList args.toList ds p := hA0
  rw [Try.params5] at hA hval
  obtain ⟨v0, vs0, d0, ds0, p0, q0, hargs, rfl, rfl, h0, r0⟩ := trodAll_cons hA
  obtain ⟨v1, vs1, d1, ds1, p1, q1, rfl, rfl, rfl, h1, r1⟩ := trodAll_cons r0
  obtain ⟨v2, vs2, d2, ds2, p2, q2, rfl, rfl, rfl, h2, r2⟩ := trodAll_cons r1
  obtain ⟨rfl, rfl, rfl⟩ := trodAll_nil r2
  obtain rfl : args = #[v0, v1, v2] := by cases args; simp_all
  obtain ⟨rfl, rfl⟩ := trodVars_none hV
  obtain ⟨a0, rfl, rfl, rfl, w0⟩ := open_int Try.underlying22 (hval 0 22 v0 rfl rfl) h0
  obtain ⟨a1, rfl, rfl, rfl, w1⟩ := open_int Try.underlying22 (hval 1 22 v1 rfl rfl) h1
  obtain ⟨a2, rfl, rfl, rfl, w2⟩ := open_int Try.underlying22 (hval 2 22 v2 rfl rfl) h2
  clear hA0 hval0
  simp only [List.append_nil] at hW'
  have b0 : 0 ≤ a0 ∧ a0 < 4294967296 := by
    have h := w0
    simp only [Lit.wf, Bool.and_eq_true, decide_eq_true_eq] at h
    have e1 : IntKind.u32.min = 0 := by decide
    have e2 : IntKind.u32.max = 4294967295 := by decide
    omega
  have b1 : 0 ≤ a1 ∧ a1 < 4294967296 := by
    have h := w1
    simp only [Lit.wf, Bool.and_eq_true, decide_eq_true_eq] at h
    have e1 : IntKind.u32.min = 0 := by decide
    have e2 : IntKind.u32.max = 4294967295 := by decide
    omega
  have b2 : 0 ≤ a2 ∧ a2 < 4294967296 := by
    have h := w2
    simp only [Lit.wf, Bool.and_eq_true, decide_eq_true_eq] at h
    have e1 : IntKind.u32.min = 0 := by decide
    have e2 : IntKind.u32.max = 4294967295 := by decide
    omega
  refine (divback_walk a0 a1 a2 W b0.1 b0.2 b1.1 b1.2 b2.1 b2.2).mono fun e W' ⟨he, hg⟩ => ?_
  subst he
  exact ⟨_, rfl, post_plain hW' hg (fun sp => (trodAll_cons_mk (shut_int Try.underlying22 w0) (trodAll_cons_mk (shut_int Try.underlying22 w1) (trodAll_cons_mk (shut_int Try.underlying22 w2) trodAll_mk0)))) (fun _ => rfl)
    (fun _ _ _ => (trodAll_cons_mk (shut_bool Try.underlying4 _) trodAll_mk0)) (ok_one (by kernel_rfl) rfl (okWide_bool_mk Try.underlying4 _))⟩

theorem divBack_holds : Rows.DivBackSaid :=
  OpenClaim.holds_of_wide 5 Try.f5 rfl rfl rfl rfl rfl rfl rfl ⟨rfl, rfl, rfl, rfl, rfl⟩ rfl rfl rfl rfl rfl (by kernel_rfl) Try.func5 (by kernel_rfl)
    (of_decide_eq_true (by kernel_rfl)) (by unfold Func.isWrapper; first | (rw [if_pos (by decide +kernel)]; kernel_rfl) | (rw [if_neg (by decide +kernel)]; exact ⟨rfl, rfl⟩))
    (fun os started H enc _ => divBack_lifted os started H enc)
#print axioms divBack_holds
end Go.Proofs.Ytahmclgegbinbaa
