/- How a product with signs hangs on one without: for every two numbers and flags. -/
import Derived.Test.YtahmclgegbinbaaKnown3
import Derived.Test.YtahmclgegbinbaaShut
namespace Go.Proofs.Ytahmclgegbinbaa
open Go.ChangeShapes Go.WideShapes Go.ChangeAt Go.RowKit

/-- The upper half of a product with signs, by the signs of its two numbers. -/
def sigH (a b : Int) : Int :=
  if wrap32 a < 0 then (if wrap32 b < 0 then ((mulH a b - b) % 4294967296 - a) % 4294967296 else (mulH a b - b) % 4294967296)
  else (if wrap32 b < 0 then (mulH a b - a) % 4294967296 else mulH a b)
theorem ms_l (a b : Int) : imulL a b = mulL a b := by
  unfold imulL mulL imulP
  obtain ⟨x, hx⟩ : ∃ x, wrap32 a = a + 4294967296 * x := ⟨-((a + 2147483648) / 4294967296), by unfold wrap32; omega⟩
  obtain ⟨y, hy⟩ : ∃ y, wrap32 b = b + 4294967296 * y := ⟨-((b + 2147483648) / 4294967296), by unfold wrap32; omega⟩
  rw [hx, hy, show (a + 4294967296 * x) * (b + 4294967296 * y) = a * b + 4294967296 * (x * b + a * y + 4294967296 * (x * y)) by
    simp only [Int.add_mul, Int.mul_add, Int.mul_assoc, Int.mul_left_comm, Int.mul_comm]; omega]
  omega
theorem wrap32_cases (a : Int) (a0 : 0 ≤ a) (a1 : a < 4294967296) : (wrap32 a < 0 ∧ wrap32 a = a - 4294967296) ∨ (¬ wrap32 a < 0 ∧ wrap32 a = a) := by
  unfold wrap32; omega
theorem ms_h (a b : Int) (a0 : 0 ≤ a) (a1 : a < 4294967296) (b0 : 0 ≤ b) (b1 : b < 4294967296) : imulH a b = sigH a b := by
  have m0 := mul_lo a b a0 b0
  have m1 := mul_hi a b a1 b0 b1
  unfold imulH sigH mulH imulP
  rcases wrap32_cases a a0 a1 with ⟨ha, ea⟩ | ⟨ha, ea⟩
  all_goals
    rcases wrap32_cases b b0 b1 with ⟨hb, eb⟩ | ⟨hb, eb⟩
    all_goals
      simp only [ha, hb, if_true, if_false]
      rw [ea, eb]
  · rw [show (a - 4294967296) * (b - 4294967296) = a * b - 4294967296 * (a + b) + 18446744073709551616 by simp only [Int.mul_sub, Int.mul_comm]; omega]
    generalize a * b = P at *; omega
  · rw [show (a - 4294967296) * b = a * b - 4294967296 * b by rw [Int.sub_mul]]
    generalize a * b = P at *; omega
  · rw [show a * (b - 4294967296) = a * b - 4294967296 * a by rw [Int.mul_sub, Int.mul_comm a 4294967296]]
    generalize a * b = P at *; omega
  · generalize a * b = P at *; omega
theorem ms_c (a b : Int) : imulC a b = (imulH a b != wrap32 (imulL a b) / 2147483648 % 4294967296) := by
  have p0 := imul_lo a b
  have p1 := imul_hi a b
  unfold imulC imulH imulL
  generalize imulP a b = P at *
  rw [Bool.eq_iff_iff]
  unfold wrap32
  simp
  omega
theorem ms_any (fc fp fz fs fo fd : Bool) (a b : Int) (a0 : 0 ≤ a) (a1 : a < 4294967296) (b0 : 0 ≤ b) (b1 : b < 4294967296) (w : World) :
    Calls Try.prog 13 #[.agg #[.bool fc, .bool fp, .bool fz, .bool fs, .bool fo, .bool fd], .int .u32 a, .int .u32 b] w fun e w' =>
   e = .returned (.tuple #[.int .u32 (sigH a b), .int .u32 (mulL a b), .agg #[.bool (sigH a b != wrap32 (mulL a b) / 2147483648 % 4294967296), .bool fp, .bool fz, .bool fs, .bool (sigH a b != wrap32 (mulL a b) / 2147483648 % 4294967296), .bool fd]]) ∧ Below w.heap.size w w' := by
  have g := imul_any fc fp fz fs fo fd a b a0 a1 b0 b1 w
  rw [ms_c, ms_l, ms_h a b a0 a1 b0 b1] at g
  exact g

attribute [local go_sem] isSome_setCell
set_option maxRecDepth 100000 in
set_option maxHeartbeats 4000000 in
theorem mulsigns_walk (a b : Int) (fc fp fz fs fo fd : Bool) (w : World) (a0 : 0 ≤ a) (a1 : a < 4294967296) (b0 : 0 ≤ b) (b1 : b < 4294967296) :
    Calls Try.prog 7 #[.int .u32 a, .int .u32 b, .agg #[.bool fc, .bool fp, .bool fz, .bool fs, .bool fo, .bool fd]] w fun e w' => e = .returned (.bool true) ∧ Below w.heap.size w w' := by
  have hI := ms_any fc fp fz fs fo fd a b a0 a1 b0 b1
  have hM := mul_any fc fp fz fs fo fd a b a0 a1 b0 b1
  unfold sigH at hI
  by_cases ha : wrap32 a < 0
  all_goals
    by_cases hb : wrap32 b < 0
    all_goals
      simp only [ha, hb, if_true, if_false] at hI
      generalize mulC a b = C at *
      generalize mulH a b = H at *
      generalize mulL a b = L at *
      go_enter Try.func7, Try.ntmps7
      go_wp2_with (go_at_call 9; refine (known3_any _).mono ?_; rintro e w1 ⟨rfl, hb1⟩; have hq1 := six_made hb1)
      have B1 := below_next (Below.refl w.heap.size w) hb1
      refine (hM _).mono ?_
      rintro e w2 ⟨rfl, hb2⟩
      have hq2 := six_call hb2 hq1
      have hz2 := cell_lt hq2.1
      have B2 := B1.trans (hb2.mono B1.size)
      clear hq1 hM
      go_wp2_with fail
      refine (hI _).mono ?_
      rintro e w3 ⟨rfl, hb3⟩
      have hq3 := six_next hb3 hq2
      have hz3 := cell_lt hq3.1
      have B3 := below_next B2 hb3
      clear hq2 hI
      go_wp2_with fail
      go_ret
      exact ⟨by simp, below_last B3 _⟩

theorem mulSigns_own : ownKnob Try.prog.godebug = none := by kernel_rfl
set_option maxRecDepth 100000 in
theorem mulSigns_lifted (os : Os) (started : os.Started) (H : Type) (enc : TypeId × Value → H) :
    ReturnsInHanded {} Try.checked os 7 .any (Rows.mulSignsSpec.pre6 enc Try.prog Try.f7 Rows.mulSignsRow.domain false) (Rows.mulSignsSpec.post enc Try.prog Try.f7 false true false false) := by
  refine returnsInHanded_of_change (C := Try.checked) mulSigns_own started (by kernel_rfl) Try.func7
    (ChangeSpec.witness6 (enc := enc) (C := Try.checked) false ⟨#[], #[.int .u32 0, .int .u32 0, .agg #[.bool false, .bool false, .bool false, .bool false, .bool false, .bool false]], []⟩ 8 (by kernel_rfl) (by kernel_rfl) (by kernel_rfl) (by kernel_rfl)) ?_
  intro W base args ds gs before hval0 hW hcnd _
  have hval : ∀ (j : Nat) t v, Try.f7.params[j]? = some t → args[j]? = some v → Value.okWide Try.prog W .any base t v := hval0
  have hW' := hW
  obtain ⟨p, q, hA0, hV, rfl, hfz, hnd⟩ := hW
  have hA : DataW.TrodAll enc Try.prog W 0 (fun _ => true) true Try.f7.params.toList args.toList ds p := hA0
  rw [Try.params7] at hA hval
  obtain ⟨v0, vs0, d0, ds0, p0, q0, hargs, rfl, rfl, h0, r0⟩ := trodAll_cons hA
  obtain ⟨v1, vs1, d1, ds1, p1, q1, rfl, rfl, rfl, h1, r1⟩ := trodAll_cons r0
  obtain ⟨v2, vs2, d2, ds2, p2, q2, rfl, rfl, rfl, h2, r2⟩ := trodAll_cons r1
  obtain ⟨rfl, rfl, rfl⟩ := trodAll_nil r2
  obtain rfl : args = #[v0, v1, v2] := by cases args; simp_all
  obtain ⟨rfl, rfl⟩ := trodVars_none hV
  obtain ⟨a0, rfl, rfl, rfl, w0⟩ := open_int Try.underlying22 (hval 0 22 v0 rfl rfl) h0
  obtain ⟨a1, rfl, rfl, rfl, w1⟩ := open_int Try.underlying22 (hval 1 22 v1 rfl rfl) h1
  obtain ⟨a2c, a2p, a2z, a2s, a2o, a2d, rfl, rfl, rfl⟩ := open_flags (hval 2 24 v2 rfl rfl) h2
  clear hA0 hval0
  simp only [List.append_nil] at hW'
  have b0 : 0 ≤ a0 ∧ a0 < 4294967296 := by
    have h := w0
    simp only [Lit.wf, Bool.and_eq_true, decide_eq_true_eq] at h
    have e1 : IntKind.u32.min = 0 := by decide
    have e2 : IntKind.u32.max = 4294967295 := by decide
    omega
  have b1 : 0 ≤ a1 ∧ a1 < 4294967296 := by
    have h := w1
    simp only [Lit.wf, Bool.and_eq_true, decide_eq_true_eq] at h
    have e1 : IntKind.u32.min = 0 := by decide
    have e2 : IntKind.u32.max = 4294967295 := by decide
    omega
  refine (mulsigns_walk a0 a1 a2c a2p a2z a2s a2o a2d W b0.1 b0.2 b1.1 b1.2).mono fun e W' ⟨he, hg⟩ => ?_
  subst he
  exact ⟨_, rfl, post_plain hW' hg (fun sp => (trodAll_cons_mk (shut_int Try.underlying22 w0) (trodAll_cons_mk (shut_int Try.underlying22 w1) (trodAll_cons_mk (shut_flags _ _ _ _ _ _) trodAll_mk0)))) (fun _ => rfl)
    (fun _ _ _ => (trodAll_cons_mk (shut_bool Try.underlying4 _) trodAll_mk0)) (ok_one (by kernel_rfl) rfl (okWide_bool_mk Try.underlying4 _))⟩

theorem mulSigns_holds : Rows.MulSignsSaid :=
  OpenClaim.holds_of_wide 7 Try.f7 rfl rfl rfl rfl rfl rfl rfl ⟨rfl, rfl, rfl, rfl, rfl⟩ rfl rfl rfl rfl rfl (by kernel_rfl) Try.func7 (by kernel_rfl)
    (of_decide_eq_true (by kernel_rfl)) (by unfold Func.isWrapper; first | (rw [if_pos (by decide +kernel)]; kernel_rfl) | (rw [if_neg (by decide +kernel)]; exact ⟨rfl, rfl⟩))
    (fun os started H enc _ => mulSigns_lifted os started H enc)
#print axioms mulSigns_holds
end Go.Proofs.Ytahmclgegbinbaa
