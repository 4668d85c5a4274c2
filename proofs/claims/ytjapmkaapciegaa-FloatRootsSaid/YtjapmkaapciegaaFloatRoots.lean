/- The root of a square is its number, and of less than nought none: for every signed number of 26 bits. -/
import Derived.Test.YtjapmkaapciegaaKnown4
import Derived.Test.YtjapmkaapciegaaShut
namespace Go.Proofs.Ytjapmkaapciegaa
open Go.ChangeShapes Go.WideShapes Go.ChangeAt Go.RowKit

theorem fro_do (op : Int) (a b c : Nat) (h1 : a < 18446744073709551616) (k1 : b < 18446744073709551616) (h : fltN op a b = c) (w : World) : Calls Try.prog 13 #[.int .i64 op, .int .u64 (a : Int), .int .u64 (b : Int)] w fun e w' => e = .returned (.int .u64 (c : Int)) ∧ Below w.heap.size w w' := by
  have g := fdo_any op a b h1 k1 w
  rw [h] at g
  exact g
attribute [local go_sem] isSome_setCell
set_option maxRecDepth 100000 in
set_option maxHeartbeats 4000000 in
theorem froots_neg (v : Int) (a : Nat) (k : Int) (w : World) (hk : v / 64 = k) (k0 : -33554432 ≤ k) (k1 : k ≤ 33554432) (hs : k < 0) (a1 : a < 18446744073709551616) :
    Calls Try.prog 9 #[.int .i32 v, .int .u64 (a : Int)] w fun e w' => e = .returned (.bool true) ∧ Below w.heap.size w w' := by
  obtain ⟨m, hm, m1, m2⟩ := sqr_from k (by omega) (by omega) a
  rw [show (k.natAbs : Int) = -k by omega] at m2
  have hn := neg_root (k - 1) (by omega) (by omega) a
  have fx := ffrom_any (k % 4294967296) (by omega) (by omega)
  have fk := ffrom_any (-k % 4294967296) (by omega) (by omega)
  have fn := ffrom_any ((k - 1) % 4294967296) (by omega) (by omega)
  have x1 := (from_whole k (by omega) (by omega)).1
  have y1 := (from_whole (-k) (by omega) (by omega)).1
  have z1 := (from_whole (k - 1) (by omega) (by omega)).1
  generalize fromN ((k - 1) % 4294967296) = z at *
  generalize fromN (k % 4294967296) = x at *
  generalize fromN (-k % 4294967296) = y at *
  rw [show -k % 4294967296 = -k by omega] at fk
  have gm := fro_do 53 x x m x1 x1 hm
  have gs := fro_do 58 a m _ a1 m1 m2
  have gn := fro_do 58 a z _ a1 z1 hn
  clear hm m2 hn
  go_enter Try.func9, Try.ntmps9
  go_wp2_with (go_at_call 11; refine (known4_any _).mono ?_; rintro e w0 ⟨rfl, B0⟩)
  refine (fx _).mono ?_
  rintro e w1 ⟨rfl, hb1⟩
  have B1 := B0.trans (hb1.mono B0.size)
  go_wp2_with fail
  refine (gm _).mono ?_
  rintro e w2 ⟨rfl, hb2⟩
  have B2 := B1.trans (hb2.mono B1.size)
  go_wp2_with fail
  refine (gs _).mono ?_
  rintro e w3 ⟨rfl, hb3⟩
  have B3 := B2.trans (hb3.mono B2.size)
  go_wp2_with fail
  refine (fn _).mono ?_
  rintro e w4 ⟨rfl, hb4⟩
  have B4 := B3.trans (hb4.mono B3.size)
  go_wp2_with fail
  refine (gn _).mono ?_
  rintro e w5 ⟨rfl, hb5⟩
  have B5 := B4.trans (hb5.mono B4.size)
  go_wp2_with fail
  refine (fk _).mono ?_
  rintro e w6 ⟨rfl, hb6⟩
  have B6 := B5.trans (hb6.mono B5.size)
  go_wp2_with fail
  go_ret
  exact ⟨by simp, B6⟩
set_option maxRecDepth 100000 in
set_option maxHeartbeats 4000000 in
theorem froots_pos (v : Int) (a : Nat) (k : Int) (w : World) (hk : v / 64 = k) (k0 : -33554432 ≤ k) (k1 : k ≤ 33554432) (hs : 0 ≤ k) (a1 : a < 18446744073709551616) :
    Calls Try.prog 9 #[.int .i32 v, .int .u64 (a : Int)] w fun e w' => e = .returned (.bool true) ∧ Below w.heap.size w w' := by
  obtain ⟨m, hm, m1, m2⟩ := sqr_from k (by omega) (by omega) a
  rw [show (k.natAbs : Int) = k by omega] at m2
  have hn := neg_root (-k - 1) (by omega) (by omega) a
  have fx := ffrom_any (k % 4294967296) (by omega) (by omega)
  have fk := ffrom_any (k % 4294967296) (by omega) (by omega)
  have fn := ffrom_any ((-k - 1) % 4294967296) (by omega) (by omega)
  have x1 := (from_whole k (by omega) (by omega)).1
  have y1 := (from_whole (k) (by omega) (by omega)).1
  have z1 := (from_whole (-k - 1) (by omega) (by omega)).1
  generalize fromN ((-k - 1) % 4294967296) = z at *
  generalize fromN (k % 4294967296) = x at *
  rw [show k % 4294967296 = k by omega] at fx fk
  have gm := fro_do 53 x x m x1 x1 hm
  have gs := fro_do 58 a m _ a1 m1 m2
  have gn := fro_do 58 a z _ a1 z1 hn
  clear hm m2 hn
  go_enter Try.func9, Try.ntmps9
  go_wp2_with (go_at_call 11; refine (known4_any _).mono ?_; rintro e w0 ⟨rfl, B0⟩)
  refine (fx _).mono ?_
  rintro e w1 ⟨rfl, hb1⟩
  have B1 := B0.trans (hb1.mono B0.size)
  go_wp2_with fail
  refine (gm _).mono ?_
  rintro e w2 ⟨rfl, hb2⟩
  have B2 := B1.trans (hb2.mono B1.size)
  go_wp2_with fail
  refine (gs _).mono ?_
  rintro e w3 ⟨rfl, hb3⟩
  have B3 := B2.trans (hb3.mono B2.size)
  go_wp2_with fail
  refine (fn _).mono ?_
  rintro e w4 ⟨rfl, hb4⟩
  have B4 := B3.trans (hb4.mono B3.size)
  go_wp2_with fail
  refine (gn _).mono ?_
  rintro e w5 ⟨rfl, hb5⟩
  have B5 := B4.trans (hb5.mono B4.size)
  go_wp2_with fail
  refine (fk _).mono ?_
  rintro e w6 ⟨rfl, hb6⟩
  have B6 := B5.trans (hb6.mono B5.size)
  go_wp2_with fail
  go_ret
  exact ⟨by simp, B6⟩
theorem froots_walk (v a : Int) (w : World) (v0 : -2147483648 ≤ v) (v1 : v ≤ 2147483647) (a0 : 0 ≤ a) (a1 : a < 18446744073709551616) :
    Calls Try.prog 9 #[.int .i32 v, .int .u64 a] w fun e w' => e = .returned (.bool true) ∧ Below w.heap.size w w' := by
  obtain ⟨a, rfl⟩ := Int.eq_ofNat_of_zero_le a0
  rcases Int.lt_or_le (v / 64) 0 with h | h
  · exact froots_neg v a _ w rfl (by omega) (by omega) h (by omega)
  · exact froots_pos v a _ w rfl (by omega) (by omega) h (by omega)

theorem floatRoots_own : ownKnob Try.prog.godebug = none := by kernel_rfl
set_option maxRecDepth 100000 in
theorem floatRoots_lifted (os : Os) (started : os.Started) (H : Type) (enc : TypeId × Value → H) :
    ReturnsInHanded {} Try.checked os 9 .any (Rows.floatRootsSpec.pre6 enc Try.prog Try.f9 Rows.floatRootsRow.domain false) (Rows.floatRootsSpec.post enc Try.prog Try.f9 false true false false) := by
  refine returnsInHanded_of_change (C := Try.checked) floatRoots_own started (by kernel_rfl) Try.func9
    (ChangeSpec.witness6 (enc := enc) (C := Try.checked) false ⟨#[], #[.int .i32 0, .int .u64 0], []⟩ 8 (by kernel_rfl) (by kernel_rfl) (by kernel_rfl) (by kernel_rfl)) ?_
  intro W base args ds gs before hval0 hW hcnd _
  have hval : ∀ (j : Nat) t v, Try.f9.params[j]? = some t → args[j]? = some v → Value.okWide Try.prog W .any base t v := hval0
  have hW' := hW
  obtain ⟨p, q, hA0, hV, rfl, hfz, hnd⟩ := hW
  have hA : DataW.TrodAll enc Try.prog W 0 (fun _ => true) true Try.f9.params.toList args.toList ds p := hA0
  rw [Try.params9] at hA hval
  obtain ⟨v0, vs0, d0, ds0, p0, q0, hargs, rfl, rfl, h0, r0⟩ := trodAll_cons hA
  obtain ⟨v1, vs1, d1, ds1, p1, q1, rfl, rfl, rfl, h1, r1⟩ := trodAll_cons r0
  obtain ⟨rfl, rfl, rfl⟩ := trodAll_nil r1
  obtain rfl : args = #[v0, v1] := by cases args; simp_all
  obtain ⟨rfl, rfl⟩ := trodVars_none hV
  obtain ⟨a0, rfl, rfl, rfl, w0⟩ := open_int Try.underlying21 (hval 0 21 v0 rfl rfl) h0
  obtain ⟨a1, rfl, rfl, rfl, w1⟩ := open_int Try.underlying22 (hval 1 22 v1 rfl rfl) h1
  clear hA0 hval0
  simp only [List.append_nil] at hW'
  have b0 : -2147483648 ≤ a0 ∧ a0 ≤ 2147483647 := by
    have h := w0
    simp only [Lit.wf, Bool.and_eq_true, decide_eq_true_eq] at h
    have e1 : IntKind.i32.min = -2147483648 := by decide
    have e2 : IntKind.i32.max = 2147483647 := by decide
    omega
  have b1 : 0 ≤ a1 ∧ a1 < 18446744073709551616 := by
    have h := w1
    simp only [Lit.wf, Bool.and_eq_true, decide_eq_true_eq] at h
    have e1 : IntKind.u64.min = 0 := by decide
    have e2 : IntKind.u64.max = 18446744073709551615 := by decide
    omega
  refine (froots_walk a0 a1 W b0.1 b0.2 b1.1 b1.2).mono fun e W' ⟨he, hg⟩ => ?_
  subst he
  exact ⟨_, rfl, post_plain hW' hg (fun sp => (trodAll_cons_mk (shut_int Try.underlying21 w0) (trodAll_cons_mk (shut_int Try.underlying22 w1) trodAll_mk0))) (fun _ => rfl)
    (fun _ _ _ => (trodAll_cons_mk (shut_bool Try.underlying4 _) trodAll_mk0)) (ok_one (by kernel_rfl) rfl (okWide_bool_mk Try.underlying4 _))⟩

theorem floatRoots_holds : Rows.FloatRootsSaid :=
  OpenClaim.holds_of_wide 9 Try.f9 rfl rfl rfl rfl rfl rfl rfl ⟨rfl, rfl, rfl, rfl, rfl⟩ rfl rfl rfl rfl rfl (by kernel_rfl) Try.func9 (by kernel_rfl)
    (of_decide_eq_true (by kernel_rfl)) (by unfold Func.isWrapper; first | (rw [if_pos (by decide +kernel)]; kernel_rfl) | (rw [if_neg (by decide +kernel)]; exact ⟨rfl, rfl⟩))
    (fun os started H enc _ => floatRoots_lifted os started H enc)
#print axioms floatRoots_holds
end Go.Proofs.Ytjapmkaapciegaa
