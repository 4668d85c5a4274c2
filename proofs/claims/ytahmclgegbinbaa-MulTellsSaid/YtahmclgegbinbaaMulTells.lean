/- Each product of two numbers, signed or not, with its flags, is the document's. -/
import Derived.Test.YtahmclgegbinbaaKnown3
import Derived.Test.YtahmclgegbinbaaFlags
import Derived.Test.YtahmclgegbinbaaShut
namespace Go.Proofs.Ytahmclgegbinbaa
open Go.ChangeShapes Go.WideShapes Go.ChangeAt Go.RowKit

attribute [local go_sem] isSome_setCell flags_guard flags_eql flags_neq
set_option maxRecDepth 100000 in
set_option maxHeartbeats 4000000 in
theorem multells_walk (a b k j : Int) (fc fp fz fs fo fd : Bool) (w : World) (a0 : 0 ≤ a) (a1 : a < 4294967296) (b0 : 0 ≤ b) (b1 : b < 4294967296) (k0 : 0 ≤ k) (k1 : k < 256) (j0 : 0 ≤ j) (j1 : j < 256) :
    Calls Try.prog 3 #[.int .u32 a, .int .u32 b, .int .u8 k, .int .u8 j, .agg #[.bool fc, .bool fp, .bool fz, .bool fs, .bool fo, .bool fd]] w fun e w' => e = .returned (.bool true) ∧ Below w.heap.size w w' := by
  go_enter Try.func3, Try.ntmps3
  go_wp2_with (go_at_call 9; refine (known3_any _).mono ?_; rintro e w1 ⟨rfl, hb1⟩; have hq1 := six_made hb1)
  have B1 := below_next (Below.refl w.heap.size w) hb1
  refine (near_any a k a0 a1 k0 k1 _).mono ?_
  rintro e w2 ⟨x, x0, x1, rfl, hb2⟩
  have hq2 := six_call hb2 hq1
  have B2 := B1.trans (hb2.mono B1.size)
  go_wp2_with fail
  refine (near_any b j b0 b1 j0 j1 _).mono ?_
  rintro e w3 ⟨y, y0, y1, rfl, hb3⟩
  have hq3 := six_call hb3 hq2
  have B3 := B2.trans (hb3.mono B2.size)
  clear hq1 hq2
  go_wp2_with fail
  refine (mul_any fc fp fz fs fo fd x y x0 x1 y0 y1 _).mono ?_
  rintro e w4 ⟨rfl, hb4⟩
  have hq4 := six_call hb4 hq3
  have hz4 := cell_lt hq4.1
  have B4 := B3.trans (hb4.mono B3.size)
  clear hq3
  go_wp2_with fail
  refine (rmul_any fc fp fz fs fo fd x y x0 x1 y0 y1 _).mono ?_
  rintro e w5 ⟨rfl, hb5⟩
  have hq5 := six_next hb5 hq4
  have hr5 := six_made hb5
  have hz5 := cell_lt hq5.1
  have hz51 := cell_lt hr5.1
  have B5 := below_next B4 hb5
  clear hq4
  go_wp2_with fail
  refine (imul_any fc fp fz fs fo fd x y x0 x1 y0 y1 _).mono ?_
  rintro e w6 ⟨rfl, hb6⟩
  have hq6 := six_next hb6 hq5
  have hr6 := six_next hb6 hr5
  have hs6 := six_made hb6
  have hz6 := cell_lt hq6.1
  have hz61 := cell_lt hr6.1
  have hz62 := cell_lt hs6.1
  have B6 := below_next B5 hb6
  clear hq5 hr5
  go_wp2_with fail
  refine (rimul_any fc fp fz fs fo fd x y _).mono ?_
  rintro e w7 ⟨rfl, hb7⟩
  have hr7 := six_next hb7 hr6
  have hs7 := six_next hb7 hs6
  have ht7 := six_made hb7
  have hz71 := cell_lt hr7.1
  have hz72 := cell_lt hs7.1
  have hz73 := cell_lt ht7.1
  have B7 := below_next B6 hb7
  clear hq6 hr6 hs6
  go_wp2_with fail
  go_ret
  exact ⟨by simp, below_last B7 _⟩

theorem mulTells_own : ownKnob Try.prog.godebug = none := by kernel_rfl
set_option maxRecDepth 100000 in
theorem mulTells_lifted (os : Os) (started : os.Started) (H : Type) (enc : TypeId × Value → H) :
    ReturnsInHanded {} Try.checked os 3 .any (Rows.mulTellsSpec.pre6 enc Try.prog Try.f3 Rows.mulTellsRow.domain false) (Rows.mulTellsSpec.post enc Try.prog Try.f3 false true false false) := by
  refine returnsInHanded_of_change (C := Try.checked) mulTells_own started (by kernel_rfl) Try.func3
    (ChangeSpec.witness6 (enc := enc) (C := Try.checked) false ⟨#[], #[.int .u32 0, .int .u32 0, .int .u8 0, .int .u8 0, .agg #[.bool false, .bool false, .bool false, .bool false, .bool false, .bool false]], []⟩ 8 (by kernel_rfl) (by kernel_rfl) (by kernel_rfl) (by kernel_rfl)) ?_
  intro W base args ds gs before hval0 hW hcnd _
  have hval : ∀ (j : Nat) t v, Try.f3.params[j]? = some t → args[j]? = some v → Value.okWide Try.prog W .any base t v := hval0
  have hW' := hW
  obtain ⟨p, q, hA0, hV, rfl, hfz, hnd⟩ := hW
  have hA : DataW.TrodAll enc Try.prog W 0 (fun _ => true) true Try.f3.params.toList args.toList ds p := hA0
  rw [Try.params3] at hA hval
  obtain ⟨v0, vs0, d0, ds0, p0, q0, hargs, rfl, rfl, h0, r0⟩ := trodAll_cons hA
  obtain ⟨v1, vs1, d1, ds1, p1, q1, rfl, rfl, rfl, h1, r1⟩ := trodAll_cons r0
  obtain ⟨v2, vs2, d2, ds2, p2, q2, rfl, rfl, rfl, h2, r2⟩ := trodAll_cons r1
  obtain ⟨v3, vs3, d3, ds3, p3, q3, rfl, rfl, rfl, h3, r3⟩ := trodAll_cons r2
  obtain ⟨v4, vs4, d4, ds4, p4, q4, rfl, rfl, rfl, h4, r4⟩ := trodAll_cons r3
  obtain ⟨rfl, rfl, rfl⟩ := trodAll_nil r4
  obtain rfl : args = #[v0, v1, v2, v3, v4] := by cases args; simp_all
  obtain ⟨rfl, rfl⟩ := trodVars_none hV
  obtain ⟨a0, rfl, rfl, rfl, w0⟩ := open_int Try.underlying22 (hval 0 22 v0 rfl rfl) h0
  obtain ⟨a1, rfl, rfl, rfl, w1⟩ := open_int Try.underlying22 (hval 1 22 v1 rfl rfl) h1
  obtain ⟨a2, rfl, rfl, rfl, w2⟩ := open_int Try.underlying5 (hval 2 5 v2 rfl rfl) h2
  obtain ⟨a3, rfl, rfl, rfl, w3⟩ := open_int Try.underlying5 (hval 3 5 v3 rfl rfl) h3
  obtain ⟨a4c, a4p, a4z, a4s, a4o, a4d, rfl, rfl, rfl⟩ := open_flags (hval 4 24 v4 rfl rfl) h4
  clear hA0 hval0
  simp only [List.append_nil] at hW'
  have b0 : 0 ≤ a0 ∧ a0 < 4294967296 := by
    have h := w0
    simp only [Lit.wf, Bool.and_eq_true, decide_eq_true_eq] at h
    have e1 : IntKind.u32.min = 0 := by decide
    have e2 : IntKind.u32.max = 4294967295 := by decide
    omega
  have b1 : 0 ≤ a1 ∧ a1 < 4294967296 := by
    have h := w1
    simp only [Lit.wf, Bool.and_eq_true, decide_eq_true_eq] at h
    have e1 : IntKind.u32.min = 0 := by decide
    have e2 : IntKind.u32.max = 4294967295 := by decide
    omega
  have b2 : 0 ≤ a2 ∧ a2 < 256 := by
    have h := w2
    simp only [Lit.wf, Bool.and_eq_true, decide_eq_true_eq] at h
    have e1 : IntKind.u8.min = 0 := by decide
    have e2 : IntKind.u8.max = 255 := by decide
    omega
  have b3 : 0 ≤ a3 ∧ a3 < 256 := by
    have h := w3
    simp only [Lit.wf, Bool.and_eq_true, decide_eq_true_eq] at h
    have e1 : IntKind.u8.min = 0 := by decide
    have e2 : IntKind.u8.max = 255 := by decide
    omega
  refine (multells_walk a0 a1 a2 a3 a4c a4p a4z a4s a4o a4d W b0.1 b0.2 b1.1 b1.2 b2.1 b2.2 b3.1 b3.2).mono fun e W' ⟨he, hg⟩ => ?_
  subst he
  exact ⟨_, rfl, post_plain hW' hg (fun sp => (trodAll_cons_mk (shut_int Try.underlying22 w0) (trodAll_cons_mk (shut_int Try.underlying22 w1) (trodAll_cons_mk (shut_int Try.underlying5 w2) (trodAll_cons_mk (shut_int Try.underlying5 w3) (trodAll_cons_mk (shut_flags _ _ _ _ _ _) trodAll_mk0)))))) (fun _ => rfl)
    (fun _ _ _ => (trodAll_cons_mk (shut_bool Try.underlying4 _) trodAll_mk0)) (ok_one (by kernel_rfl) rfl (okWide_bool_mk Try.underlying4 _))⟩

theorem mulTells_holds : Rows.MulTellsSaid :=
  OpenClaim.holds_of_wide 3 Try.f3 rfl rfl rfl rfl rfl rfl rfl ⟨rfl, rfl, rfl, rfl, rfl⟩ rfl rfl rfl rfl rfl (by kernel_rfl) Try.func3 (by kernel_rfl)
    (of_decide_eq_true (by kernel_rfl)) (by unfold Func.isWrapper; first | (rw [if_pos (by decide +kernel)]; kernel_rfl) | (rw [if_neg (by decide +kernel)]; exact ⟨rfl, rfl⟩))
    (fun os started H enc _ => mulTells_lifted os started H enc)
#print axioms mulTells_holds
end Go.Proofs.Ytahmclgegbinbaa
