/- Sums and products of small whole numbers are those of whole numbers: for every two signed numbers of 32 bits. -/
import Derived.Test.YtjapmkaapciegaaKnown4
import Derived.Test.YtjapmkaapciegaaShut
namespace Go.Proofs.Ytjapmkaapciegaa
open Go.ChangeShapes Go.WideShapes Go.ChangeAt Go.RowKit

theorem fwh_do (op : Int) (a b c : Nat) (h1 : a < 18446744073709551616) (k1 : b < 18446744073709551616) (h : fltN op a b = c) (w : World) : Calls Try.prog 13 #[.int .i64 op, .int .u64 (a : Int), .int .u64 (b : Int)] w fun e w' => e = .returned (.int .u64 (c : Int)) ∧ Below w.heap.size w w' := by
  have g := fdo_any op a b h1 k1 w
  rw [h] at g
  exact g
theorem fwh_to (a : Nat) (v : Int) (h1 : a < 18446744073709551616) (h : toN a = v) (w : World) : Calls Try.prog 17 #[.int .u64 (a : Int)] w fun e w' => e = .returned (.int .u32 v) ∧ Below w.heap.size w w' := by
  have g := ftoint_any a h1 w
  rw [h] at g
  exact g
attribute [local go_sem] isSome_setCell
set_option maxRecDepth 100000 in
set_option maxHeartbeats 4000000 in
theorem fwhole_walk (a b : Int) (w : World) (a0 : -2147483648 ≤ a) (a1 : a ≤ 2147483647) (b0 : -2147483648 ≤ b) (b1 : b ≤ 2147483647) :
    Calls Try.prog 7 #[.int .i32 a, .int .i32 b] w fun e w' => e = .returned (.bool true) ∧ Below w.heap.size w w' := by
  have p0 : -536870912 ≤ a / 65536 * (b / 131072) ∧ a / 65536 * (b / 131072) ≤ 536870912 := by
    have h1 : (a / 65536 * (b / 131072)).natAbs ≤ 32768 * 16384 := by rw [Int.natAbs_mul]; exact Nat.mul_le_mul (by omega) (by omega)
    omega
  obtain ⟨s, hs, s1, s2⟩ := add_from (a / 4) (b / 4) (by omega) (by omega) (by omega) (by omega) (by omega) (by omega)
  obtain ⟨d, hd, d1, d2⟩ := sub_from (a / 4) (b / 4) (by omega) (by omega) (by omega) (by omega) (by omega) (by omega)
  obtain ⟨m, hm, m1, m2⟩ := mul_from (a / 65536) (b / 131072) (by omega) (by omega) (by omega) (by omega) (by omega) (by omega)
  obtain ⟨c1, c2, c3⟩ := cmp_from (a / 4) (b / 4) (by omega) (by omega) (by omega) (by omega)
  have fx := ffrom_any (a / 4 % 4294967296) (by omega) (by omega)
  have fy := ffrom_any (b / 4 % 4294967296) (by omega) (by omega)
  have fp := ffrom_any (a / 65536 % 4294967296) (by omega) (by omega)
  have fq := ffrom_any (b / 131072 % 4294967296) (by omega) (by omega)
  have x1 := (from_whole (a / 4) (by omega) (by omega)).1
  have y1 := (from_whole (b / 4) (by omega) (by omega)).1
  have px := (from_whole (a / 65536) (by omega) (by omega)).1
  have qx := (from_whole (b / 131072) (by omega) (by omega)).1
  generalize fromN (a / 4 % 4294967296) = x at *
  generalize fromN (b / 4 % 4294967296) = y at *
  generalize fromN (a / 65536 % 4294967296) = p at *
  generalize fromN (b / 131072 % 4294967296) = q at *
  have gs := fwh_do 52 x y s x1 y1 hs
  have ts := fwh_to s _ s1 s2
  have gd := fwh_do 54 x y d x1 y1 hd
  have td := fwh_to d _ d1 d2
  have gm := fwh_do 53 p q m px qx hm
  have tm := fwh_to m _ m1 m2
  have hC := fcompare_any x y x1 y1
  rw [c1, c2, c3] at hC
  clear hs s2 hd d2 hm m2 c1 c2 c3
  have e1 : wrap32 ((a / 4 + b / 4) % 4294967296) = a / 4 + b / 4 := by unfold wrap32; omega
  have e2 : wrap32 ((a / 4 - b / 4) % 4294967296) = a / 4 - b / 4 := by unfold wrap32; omega
  obtain ⟨P, hP⟩ : ∃ P, a / 65536 * (b / 131072) = P := ⟨_, rfl⟩
  rw [hP] at p0 tm
  have e3 : wrap32 (P % 4294967296) = P := by unfold wrap32; omega
  go_enter Try.func7, Try.ntmps7
  go_wp2_with (go_at_call 11; refine (known4_any _).mono ?_; rintro e w0 ⟨rfl, B0⟩)
  refine (fx _).mono ?_
  rintro e w1 ⟨rfl, hb1⟩
  have B1 := B0.trans (hb1.mono B0.size)
  go_wp2_with fail
  refine (fy _).mono ?_
  rintro e w2 ⟨rfl, hb2⟩
  have B2 := B1.trans (hb2.mono B1.size)
  go_wp2_with fail
  refine (gs _).mono ?_
  rintro e w3 ⟨rfl, hb3⟩
  have B3 := B2.trans (hb3.mono B2.size)
  go_wp2_with fail
  refine (ts _).mono ?_
  rintro e w4 ⟨rfl, hb4⟩
  have B4 := B3.trans (hb4.mono B3.size)
  go_wp2_with fail
  refine (gd _).mono ?_
  rintro e w5 ⟨rfl, hb5⟩
  have B5 := B4.trans (hb5.mono B4.size)
  go_wp2_with fail
  refine (td _).mono ?_
  rintro e w6 ⟨rfl, hb6⟩
  have B6 := B5.trans (hb6.mono B5.size)
  go_wp2_with fail
  refine (fp _).mono ?_
  rintro e w7 ⟨rfl, hb7⟩
  have B7 := B6.trans (hb7.mono B6.size)
  go_wp2_with fail
  refine (fq _).mono ?_
  rintro e w8 ⟨rfl, hb8⟩
  have B8 := B7.trans (hb8.mono B7.size)
  go_wp2_with fail
  refine (gm _).mono ?_
  rintro e w9 ⟨rfl, hb9⟩
  have B9 := B8.trans (hb9.mono B8.size)
  go_wp2_with fail
  refine (tm _).mono ?_
  rintro e w10 ⟨rfl, hb10⟩
  have B10 := B9.trans (hb10.mono B9.size)
  go_wp2_with fail
  refine (hC _).mono ?_
  rintro e w11 ⟨rfl, hb11⟩
  have B11 := B10.trans (hb11.mono B10.size)
  go_wp2_with fail
  go_ret
  exact ⟨by simp, below_last B11 _⟩

theorem floatWhole_own : ownKnob Try.prog.godebug = none := by kernel_rfl
set_option maxRecDepth 100000 in
theorem floatWhole_lifted (os : Os) (started : os.Started) (H : Type) (enc : TypeId × Value → H) :
    ReturnsInHanded {} Try.checked os 7 .any (Rows.floatWholeSpec.pre6 enc Try.prog Try.f7 Rows.floatWholeRow.domain false) (Rows.floatWholeSpec.post enc Try.prog Try.f7 false true false false) := by
  refine returnsInHanded_of_change (C := Try.checked) floatWhole_own started (by kernel_rfl) Try.func7
    (ChangeSpec.witness6 (enc := enc) (C := Try.checked) false ⟨#[], #[.int .i32 0, .int .i32 0], []⟩ 8 (by kernel_rfl) (by kernel_rfl) (by kernel_rfl) (by kernel_rfl)) ?_
  intro W base args ds gs before hval0 hW hcnd _
  have hval : ∀ (j : Nat) t v, Try.f7.params[j]? = some t → args[j]? = some v → Value.okWide Try.prog W .any base t v := hval0
  have hW' := hW
  obtain ⟨p, q, hA0, hV, rfl, hfz, hnd⟩ := hW
  have hA : DataW.TrodAll enc Try.prog W 0 (fun _ => true) true Try.f7.params.toList args.toList ds p := hA0
  rw [Try.params7] at hA hval
  obtain ⟨v0, vs0, d0, ds0, p0, q0, hargs, rfl, rfl, h0, r0⟩ := trodAll_cons hA
  obtain ⟨v1, vs1, d1, ds1, p1, q1, rfl, rfl, rfl, h1, r1⟩ := trodAll_cons r0
  obtain ⟨rfl, rfl, rfl⟩ := trodAll_nil r1
  obtain rfl : args = #[v0, v1] := by cases args; simp_all
  obtain ⟨rfl, rfl⟩ := trodVars_none hV
  obtain ⟨a0, rfl, rfl, rfl, w0⟩ := open_int Try.underlying21 (hval 0 21 v0 rfl rfl) h0
  obtain ⟨a1, rfl, rfl, rfl, w1⟩ := open_int Try.underlying21 (hval 1 21 v1 rfl rfl) h1
  clear hA0 hval0
  simp only [List.append_nil] at hW'
  have b0 : -2147483648 ≤ a0 ∧ a0 ≤ 2147483647 := by
    have h := w0
    simp only [Lit.wf, Bool.and_eq_true, decide_eq_true_eq] at h
    have e1 : IntKind.i32.min = -2147483648 := by decide
    have e2 : IntKind.i32.max = 2147483647 := by decide
    omega
  have b1 : -2147483648 ≤ a1 ∧ a1 ≤ 2147483647 := by
    have h := w1
    simp only [Lit.wf, Bool.and_eq_true, decide_eq_true_eq] at h
    have e1 : IntKind.i32.min = -2147483648 := by decide
    have e2 : IntKind.i32.max = 2147483647 := by decide
    omega
  refine (fwhole_walk a0 a1 W b0.1 b0.2 b1.1 b1.2).mono fun e W' ⟨he, hg⟩ => ?_
  subst he
  exact ⟨_, rfl, post_plain hW' hg (fun sp => (trodAll_cons_mk (shut_int Try.underlying21 w0) (trodAll_cons_mk (shut_int Try.underlying21 w1) trodAll_mk0))) (fun _ => rfl)
    (fun _ _ _ => (trodAll_cons_mk (shut_bool Try.underlying4 _) trodAll_mk0)) (ok_one (by kernel_rfl) rfl (okWide_bool_mk Try.underlying4 _))⟩

theorem floatWhole_holds : Rows.FloatWholeSaid :=
  OpenClaim.holds_of_wide 7 Try.f7 rfl rfl rfl rfl rfl rfl rfl ⟨rfl, rfl, rfl, rfl, rfl⟩ rfl rfl rfl rfl rfl (by kernel_rfl) Try.func7 (by kernel_rfl)
    (of_decide_eq_true (by kernel_rfl)) (by unfold Func.isWrapper; first | (rw [if_pos (by decide +kernel)]; kernel_rfl) | (rw [if_neg (by decide +kernel)]; exact ⟨rfl, rfl⟩))
    (fun os started H enc _ => floatWhole_lifted os started H enc)
#print axioms floatWhole_holds
end Go.Proofs.Ytjapmkaapciegaa
