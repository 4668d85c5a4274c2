/- A double is cut towards nought, and which ones are too great: for every signed number of 32 bits by every one from 1 to 7. -/
import Derived.Test.YtjapmkaapciegaaKnown4
import Derived.Test.YtjapmkaapciegaaShut
import Derived.Deep.RegionWith
namespace Go.Proofs.Ytjapmkaapciegaa
open Go.ChangeShapes Go.WideShapes Go.ChangeAt Go.RowKit

theorem fcu_do (op : Int) (a b c : Nat) (h1 : a < 18446744073709551616) (k1 : b < 18446744073709551616) (h : fltN op a b = c) (w : World) : Calls Try.prog 13 #[.int .i64 op, .int .u64 (a : Int), .int .u64 (b : Int)] w fun e w' => e = .returned (.int .u64 (c : Int)) ∧ Below w.heap.size w w' := by
  have g := fdo_any op a b h1 k1 w
  rw [h] at g
  exact g
theorem fcu_to (a : Nat) (v : Int) (h1 : a < 18446744073709551616) (h : toN a = v) (w : World) : Calls Try.prog 17 #[.int .u64 (a : Int)] w fun e w' => e = .returned (.int .u32 v) ∧ Below w.heap.size w w' := by
  have g := ftoint_any a h1 w
  rw [h] at g
  exact g
theorem i32_wrap (x : Int) (h0 : -2147483648 ≤ x) (h1 : x ≤ 2147483647) : IntKind.i32.wrap (x % 4294967296) = x := by
  simp [IntKind.wrap, IntKind.bits, IntKind.signed]
  omega
theorem tdiv_abs4 (n d : Int) : -(n.natAbs : Int) ≤ n.tdiv d ∧ n.tdiv d ≤ n.natAbs := by
  have h : (n.tdiv d).natAbs ≤ n.natAbs := by rw [Int.natAbs_tdiv]; exact Nat.div_le_self _ _
  omega
theorem whole_big {w : Nat} {s : Bool} {n : Nat} (h : Whole w s n) (h1 : 2147483647 < sgd s n) : toN w = 2147483648 := by
  unfold toN
  rw [toInt_whole h]
  simp only
  rw [if_neg (by omega)]
theorem big_from (i : Int) (i0 : 2 ≤ i) (i1 : i ≤ 6) : ∃ r, fltN 53 (fromN (1073741824 % 4294967296)) (fromN (i % 4294967296)) = r ∧ r < 18446744073709551616 ∧ toN r = 2147483648 := by
  obtain ⟨s, r, h1, h2, h3, _⟩ := mul_is 1073741824 i (by omega) (by omega) (by omega) (by omega) (by omega)
  exact ⟨r, h1, h2.1, whole_big h2 (by rw [h3]; omega)⟩
theorem cut_k1 : toN 13970166044103278592 = 2147483648 := by decide +kernel
theorem cut_k2 : toN 4746794007244308480 = 2147483647 := by decide +kernel
attribute [local go_sem] isSome_setCell
set_option maxRecDepth 100000 in
set_option maxHeartbeats 4000000 in
theorem fcuts_walk (v n : Int) (w : World) (v0 : -2147483648 ≤ v) (v1 : v ≤ 2147483647) (n0 : 0 ≤ n) (n1 : n < 256) :
    Calls Try.prog 8 #[.int .i32 v, .int .u8 n] w fun e w' => e = .returned (.bool true) ∧ Below w.heap.size w w' := by
  obtain ⟨k, hk⟩ : ∃ k : Int, n % 7 = k := ⟨_, rfl⟩
  obtain ⟨i, hi⟩ : ∃ i : Int, n % 5 = i := ⟨_, rfl⟩
  have k0 : 0 ≤ k := by omega
  have k1 : k ≤ 6 := by omega
  have i0 : 0 ≤ i := by omega
  have i1 : i ≤ 4 := by omega
  obtain ⟨x, hx, x1, x2⟩ := quo_from v (k + 1) v0 v1 (by omega) (by omega)
  obtain ⟨g, hg, g1, g2⟩ := big_from (i + 2) (by omega) (by omega)
  have fh := ffrom_any ((k + 1) % 4294967296) (by omega) (by omega)
  have fv := ffrom_any (v % 4294967296) (by omega) (by omega)
  have f4 := ffrom_any (1073741824 % 4294967296) (by omega) (by omega)
  have fi := ffrom_any ((i + 2) % 4294967296) (by omega) (by omega)
  have h1 := (from_whole (k + 1) (by omega) (by omega)).1
  have hv1 := (from_whole v (by omega) (by omega)).1
  have h41 := (from_whole 1073741824 (by omega) (by omega)).1
  have hi1 := (from_whole (i + 2) (by omega) (by omega)).1
  generalize fromN ((k + 1) % 4294967296) = h at *
  generalize fromN (v % 4294967296) = y at *
  generalize fromN (1073741824 % 4294967296) = p at *
  generalize fromN ((i + 2) % 4294967296) = q at *
  rw [show (k + 1) % 4294967296 = k + 1 by omega] at fh
  rw [show (i + 2) % 4294967296 = i + 2 by omega] at fi
  rw [show (1073741824 : Int) % 4294967296 = 1073741824 by decide] at f4
  have gx := fcu_do 56 y h x hv1 h1 hx
  have tx := fcu_to x _ x1 x2
  have gg := fcu_do 53 p q g h41 hi1 hg
  have tg := fcu_to g _ g1 g2
  have t1 : ∀ w : World, Calls Try.prog 17 #[.int .u64 13970166044103278592] w fun e w' => e = .returned (.int .u32 2147483648) ∧ Below w.heap.size w w' := fcu_to 13970166044103278592 _ (by decide) cut_k1
  have t2 : ∀ w : World, Calls Try.prog 17 #[.int .u64 4746794007244308480] w fun e w' => e = .returned (.int .u32 2147483647) ∧ Below w.heap.size w w' := fcu_to 4746794007244308480 _ (by decide) cut_k2
  have b := tdiv_abs4 v (k + 1)
  have b1 : v.tdiv (k + 1) ≤ 2147483647 := by
    by_cases hn : v < 0
    · have := Int.tdiv_nonneg (a := -v) (b := k + 1) (by omega) (by omega)
      rw [Int.neg_tdiv] at this
      omega
    · omega
  have b0 : -2147483648 ≤ v.tdiv (k + 1) := by omega
  have ez : (k + 1 == 0) = false := by rw [beq_eq_false_iff_ne]; omega
  have ew : wrap32 (v.tdiv (k + 1) % 4294967296) = v.tdiv (k + 1) := by unfold wrap32; omega
  have ew2 : IntKind.i32.wrap (v.tdiv (k + 1) % 4294967296) = v.tdiv (k + 1) := i32_wrap (v.tdiv (k + 1)) (by omega) (by omega)
  clear hx x2 hg g2 b
  go_enter Try.func8, Try.ntmps8
  go_wp2_with (go_at_call 11; refine (known4_any _).mono ?_; rintro e w0 ⟨rfl, B0⟩)
  refine (fh _).mono ?_
  rintro e w1 ⟨rfl, hb1⟩
  have B1 := B0.trans (hb1.mono B0.size)
  go_wp2_with fail
  refine (fv _).mono ?_
  rintro e w2 ⟨rfl, hb2⟩
  have B2 := B1.trans (hb2.mono B1.size)
  go_wp2_with fail
  refine (gx _).mono ?_
  rintro e w3 ⟨rfl, hb3⟩
  have B3 := B2.trans (hb3.mono B2.size)
  go_wp2_with fail
  refine (f4 _).mono ?_
  rintro e w4 ⟨rfl, hb4⟩
  have B4 := B3.trans (hb4.mono B3.size)
  go_wp2_with fail
  refine (fi _).mono ?_
  rintro e w5 ⟨rfl, hb5⟩
  have B5 := B4.trans (hb5.mono B4.size)
  go_wp2_with fail
  refine (gg _).mono ?_
  rintro e w6 ⟨rfl, hb6⟩
  have B6 := B5.trans (hb6.mono B5.size)
  go_wp2_with fail
  go_region_with (go_at_call 17; first | ((with_reducible refine (tx _).mono ?_); rintro e w7 ⟨rfl, hb7'⟩; have hb7 := below_undrew hb7'; clear hb7') | ((with_reducible refine (tg _).mono ?_); rintro e w8 ⟨rfl, hb8⟩) | ((with_reducible refine (t1 _).mono ?_); rintro e w9 ⟨rfl, hb9⟩) | ((with_reducible refine (t2 _).mono ?_); rintro e w10 ⟨rfl, hb10⟩))
  all_goals
    have B7 := B6.trans (hb7.mono B6.size)
    have B8 := B7.trans (hb8.mono B7.size)
    have B9 := B8.trans (hb9.mono B8.size)
    have B10 := B9.trans (hb10.mono B9.size)
    go_wp2
    go_ret
    exact ⟨by first | rfl | simp, B10⟩

theorem floatCuts_own : ownKnob Try.prog.godebug = none := by kernel_rfl
set_option maxRecDepth 100000 in
theorem floatCuts_lifted (os : Os) (started : os.Started) (H : Type) (enc : TypeId × Value → H) :
    ReturnsInHanded {} Try.checked os 8 .any (Rows.floatCutsSpec.pre6 enc Try.prog Try.f8 Rows.floatCutsRow.domain false) (Rows.floatCutsSpec.post enc Try.prog Try.f8 false true false false) := by
  refine returnsInHanded_of_change (C := Try.checked) floatCuts_own started (by kernel_rfl) Try.func8
    (ChangeSpec.witness6 (enc := enc) (C := Try.checked) false ⟨#[], #[.int .i32 0, .int .u8 0], []⟩ 8 (by kernel_rfl) (by kernel_rfl) (by kernel_rfl) (by kernel_rfl)) ?_
  intro W base args ds gs before hval0 hW hcnd _
  have hval : ∀ (j : Nat) t v, Try.f8.params[j]? = some t → args[j]? = some v → Value.okWide Try.prog W .any base t v := hval0
  have hW' := hW
  obtain ⟨p, q, hA0, hV, rfl, hfz, hnd⟩ := hW
  have hA : DataW.TrodAll enc Try.prog W 0 (fun _ => true) true Try.f8.params.toList args.toList ds p := hA0
  rw [Try.params8] at hA hval
  obtain ⟨v0, vs0, d0, ds0, p0, q0, hargs, rfl, rfl, h0, r0⟩ := trodAll_cons hA
  obtain ⟨v1, vs1, d1, ds1, p1, q1, rfl, rfl, rfl, h1, r1⟩ := trodAll_cons r0
  obtain ⟨rfl, rfl, rfl⟩ := trodAll_nil r1
  obtain rfl : args = #[v0, v1] := by cases args; simp_all
  obtain ⟨rfl, rfl⟩ := trodVars_none hV
  obtain ⟨a0, rfl, rfl, rfl, w0⟩ := open_int Try.underlying21 (hval 0 21 v0 rfl rfl) h0
  obtain ⟨a1, rfl, rfl, rfl, w1⟩ := open_int Try.underlying5 (hval 1 5 v1 rfl rfl) h1
  clear hA0 hval0
  simp only [List.append_nil] at hW'
  have b0 : -2147483648 ≤ a0 ∧ a0 ≤ 2147483647 := by
    have h := w0
    simp only [Lit.wf, Bool.and_eq_true, decide_eq_true_eq] at h
    have e1 : IntKind.i32.min = -2147483648 := by decide
    have e2 : IntKind.i32.max = 2147483647 := by decide
    omega
  have b1 : 0 ≤ a1 ∧ a1 < 256 := by
    have h := w1
    simp only [Lit.wf, Bool.and_eq_true, decide_eq_true_eq] at h
    have e1 : IntKind.u8.min = 0 := by decide
    have e2 : IntKind.u8.max = 255 := by decide
    omega
  refine (fcuts_walk a0 a1 W b0.1 b0.2 b1.1 b1.2).mono fun e W' ⟨he, hg⟩ => ?_
  subst he
  exact ⟨_, rfl, post_plain hW' hg (fun sp => (trodAll_cons_mk (shut_int Try.underlying21 w0) (trodAll_cons_mk (shut_int Try.underlying5 w1) trodAll_mk0))) (fun _ => rfl)
    (fun _ _ _ => (trodAll_cons_mk (shut_bool Try.underlying4 _) trodAll_mk0)) (ok_one (by kernel_rfl) rfl (okWide_bool_mk Try.underlying4 _))⟩

theorem floatCuts_holds : Rows.FloatCutsSaid :=
  OpenClaim.holds_of_wide 8 Try.f8 rfl rfl rfl rfl rfl rfl rfl ⟨rfl, rfl, rfl, rfl, rfl⟩ rfl rfl rfl rfl rfl (by kernel_rfl) Try.func8 (by kernel_rfl)
    (of_decide_eq_true (by kernel_rfl)) (by unfold Func.isWrapper; first | (rw [if_pos (by decide +kernel)]; kernel_rfl) | (rw [if_neg (by decide +kernel)]; exact ⟨rfl, rfl⟩))
    (fun os started H enc _ => floatCuts_lifted os started H enc)
#print axioms floatCuts_holds
end Go.Proofs.Ytjapmkaapciegaa
