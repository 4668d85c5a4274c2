/- What may not be read isn't, what may not be written isn't, what may not run isn't. -/
import Derived.Test.YtkmoefgoolhegaaKnown8
import Derived.Test.YtkmoefgoolhegaaShut
namespace Go.Proofs.Ytkmoefgoolhegaa
open Go.ChangeShapes Go.WideShapes Go.ChangeAt Go.RowKit

theorem may_fit (a b : Int) (b1 : b ≤ 1000) (a1 : a < 256) (size : Int) (h : widN size = 4) : fitB b 300 a (widN size) = true := by
  unfold fitB segR
  rw [clampN_wid, h]
  simp
  omega
theorem may_st (r q : Bool) (a : Int) (a1 : a < 256) : stE ⟨1000, 300, r, q, false⟩ a 4 = if q then 0 else 25 := by
  unfold stE atE
  rw [may_fit a 1000 (by decide) a1 4 rfl]
  cases q <;> rfl
theorem may_ld (r q : Bool) (a : Int) (a1 : a < 256) : ldE ⟨1000, 300, r, q, false⟩ a 4 = if r then 0 else 25 := by
  unfold ldE atE
  rw [may_fit a 1000 (by decide) a1 4 rfl]
  cases r <;> rfl
theorem may_ft (x : Bool) (a : Int) (a1 : a < 256) : ftN ⟨0, 300, false, false, x⟩ a 4 = if x then 4 else 0 := by
  unfold ftN clampF
  cases x
  · rfl
  · rw [if_pos (show (true && segR 0 300) = true from rfl), if_neg (by decide), if_neg (by decide), if_pos rfl]
    simp only
    omega
set_option maxRecDepth 100000 in
set_option maxHeartbeats 8000000 in
theorem busmay_walk (r q x : Bool) (a v : Int) (w : World) (a0 : 0 ≤ a) (a1 : a < 256) (v0 : 0 ≤ v) (v1 : v < 18446744073709551616) :
    Calls Try.prog 5 #[.bool r, .bool q, .bool x, .int .u8 a, .int .u64 v] w fun e w' => e = .returned (.bool true) ∧ Below w.heap.size w w' := by
  have hst := may_st r q a a1
  have hld := may_ld r q a a1
  have hft := may_ft x a a1
  have hk1 : (⟨0, 300, false, false, x⟩ : Sg).ok := ⟨⟨by simp, by simp⟩, by simp, by simp⟩
  have hk2 : (⟨1000, 300, r, q, false⟩ : Sg).ok := ⟨⟨by simp, by simp⟩, by simp, by simp⟩
  cases r <;> cases q <;> cases x
  all_goals
    simp only [Bool.false_eq_true, ↓reduceIte] at hst hld hft
    have Hst := Lib.hid hst
    have Hld := Lib.hid hld
    have Hft := Lib.hid hft
    clear hst hld hft
    go_enter Try.func5, Try.ntmps5
    go_wp2_with fail
    refine (known8_any _).mono ?_
    rintro e w1 ⟨rfl, B1⟩
    go_wp2_with fail
    refine (min_new (w0 := w) _ B1).mono ?_
    rintro e w2 ⟨p, F, rfl, M2, _, _⟩
    go_wp2_with fail
    refine (bin_new M2 _ _ hk1 hk2).mono ?_
    rintro e w3 ⟨b, F3, rfl, X3⟩
    go_wp2_with fail
    refine (bin_store X3 a 4 v (by omega) (by omega) v0 v1).mono ?_
    rintro e w4 ⟨F4, rfl, X4⟩
    rw [Hst.out]
    clear B1 M2 X3
    go_wp2_with fail
    refine (bin_load X4 a 4 (by omega) (by omega)).mono ?_
    rintro e w5 ⟨rfl, X5⟩
    rw [Hld.out]
    clear X4
    go_wp2_with fail
    refine (bin_fetch X5 a 4 (by omega) (by omega)).mono ?_
    rintro e w6 ⟨y, cap, rfl, _, X6⟩
    rw [Hft.out]
    have B6 := X6.low
    clear X5 X6 Hst Hld Hft hk1 hk2
    go_wp2_with fail
    go_ret
    exact ⟨rfl, B6⟩

theorem busMay_own : ownKnob Try.prog.godebug = none := by kernel_rfl
set_option maxRecDepth 100000 in
theorem busMay_lifted (os : Os) (started : os.Started) (H : Type) (enc : TypeId × Value → H) :
    ReturnsInHanded {} Try.checked os 5 .any (Rows.busMaySpec.pre6 enc Try.prog Try.f5 Rows.busMayRow.domain false) (Rows.busMaySpec.post enc Try.prog Try.f5 false true false false) := by
  refine returnsInHanded_of_change (C := Try.checked) busMay_own started (by kernel_rfl) Try.func5
    (ChangeSpec.witness6 (enc := enc) (C := Try.checked) false ⟨#[], #[.bool false, .bool false, .bool false, .int .u8 0, .int .u64 0], []⟩ 8 (by kernel_rfl) (by kernel_rfl) (by kernel_rfl) (by kernel_rfl)) ?_
  intro W base args ds gs before hval0 hW hcnd _
  have hval : ∀ (j : Nat) t v, Try.f5.params[j]? = some t → args[j]? = some v → Value.okWide Try.prog W .any base t v := hval0
  have hW' := hW
  obtain ⟨p, q, hA0, hV, rfl, hfz, hnd⟩ := hW
  have hA : DataW.TrodAll enc Try.prog W 0 (fun _ => true) true Try.f5.params.toList args.toList ds p := hA0
  rw [Try.params5] at hA hval
  obtain ⟨v0, vs0, d0, ds0, p0, q0, hargs, rfl, rfl, h0, r0⟩ := trodAll_cons hA
  obtain ⟨v1, vs1, d1, ds1, p1, q1, rfl, rfl, rfl, h1, r1⟩ := trodAll_cons r0
  obtain ⟨v2, vs2, d2, ds2, p2, q2, rfl, rfl, rfl, h2, r2⟩ := trodAll_cons r1
  obtain ⟨v3, vs3, d3, ds3, p3, q3, rfl, rfl, rfl, h3, r3⟩ := trodAll_cons r2
  obtain ⟨v4, vs4, d4, ds4, p4, q4, rfl, rfl, rfl, h4, r4⟩ := trodAll_cons r3
  obtain ⟨rfl, rfl, rfl⟩ := trodAll_nil r4
  obtain rfl : args = #[v0, v1, v2, v3, v4] := by cases args; simp_all
  obtain ⟨rfl, rfl⟩ := trodVars_none hV
  obtain ⟨a0, rfl, rfl, rfl⟩ := open_bool Try.underlying4 (hval 0 4 v0 rfl rfl) h0
  obtain ⟨a1, rfl, rfl, rfl⟩ := open_bool Try.underlying4 (hval 1 4 v1 rfl rfl) h1
  obtain ⟨a2, rfl, rfl, rfl⟩ := open_bool Try.underlying4 (hval 2 4 v2 rfl rfl) h2
  obtain ⟨a3, rfl, rfl, rfl, w3⟩ := open_int Try.underlying5 (hval 3 5 v3 rfl rfl) h3
  obtain ⟨a4, rfl, rfl, rfl, w4⟩ := open_int Try.underlying25 (hval 4 25 v4 rfl rfl) h4
  clear hA0 hval0
  simp only [List.append_nil] at hW'
  have b3 : 0 ≤ a3 ∧ a3 < 256 := by
    have h := w3
    simp only [Lit.wf, Bool.and_eq_true, decide_eq_true_eq] at h
    have e1 : IntKind.u8.min = 0 := by decide
    have e2 : IntKind.u8.max = 255 := by decide
    omega
  have b4 : 0 ≤ a4 ∧ a4 < 18446744073709551616 := by
    have h := w4
    simp only [Lit.wf, Bool.and_eq_true, decide_eq_true_eq] at h
    have e1 : IntKind.u64.min = 0 := by decide
    have e2 : IntKind.u64.max = 18446744073709551615 := by decide
    omega
  refine (busmay_walk a0 a1 a2 a3 a4 W b3.1 b3.2 b4.1 b4.2).mono fun e W' ⟨he, hg⟩ => ?_
  subst he
  exact ⟨_, rfl, post_plain hW' hg (fun sp => (trodAll_cons_mk (shut_bool Try.underlying4 _) (trodAll_cons_mk (shut_bool Try.underlying4 _) (trodAll_cons_mk (shut_bool Try.underlying4 _) (trodAll_cons_mk (shut_int Try.underlying5 w3) (trodAll_cons_mk (shut_int Try.underlying25 w4) trodAll_mk0)))))) (fun _ => rfl)
    (fun _ _ _ => (trodAll_cons_mk (shut_bool Try.underlying4 _) trodAll_mk0)) (ok_one (by kernel_rfl) rfl (okWide_bool_mk Try.underlying4 _))⟩

theorem busMay_holds : Rows.BusMaySaid :=
  OpenClaim.holds_of_wide 5 Try.f5 rfl rfl rfl rfl rfl rfl rfl ⟨rfl, rfl, rfl, rfl, rfl⟩ rfl rfl rfl rfl rfl (by kernel_rfl) Try.func5 (by kernel_rfl)
    (of_decide_eq_true (by kernel_rfl)) (by unfold Func.isWrapper; first | (rw [if_pos (by decide +kernel)]; kernel_rfl) | (rw [if_neg (by decide +kernel)]; exact ⟨rfl, rfl⟩))
    (fun os started H enc _ => busMay_lifted os started H enc)
#print axioms busMay_holds
end Go.Proofs.Ytkmoefgoolhegaa
