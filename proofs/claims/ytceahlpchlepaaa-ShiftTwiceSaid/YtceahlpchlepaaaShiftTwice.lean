/- Two shifts are one of both counts, where they stay below 32, and turns come round: for every operation, number, counts and flags. -/
import Derived.Test.YtceahlpchlepaaaKnown2
import Derived.Test.YtceahlpchlepaaaShut
namespace Go.Proofs.Ytceahlpchlepaaa
open Go.ChangeShapes Go.WideShapes Go.ChangeAt Go.RowKit

theorem t_do (op v c : Int) (k : Nat) (hk : c = k) (hk2 : k < 32) (fc fp fz fs fo fd : Bool) (h0 : 0 ≤ v) (h1 : v < 4294967296) (w : World) :
    Calls Try.prog 9 #[.int .i64 op, .agg #[.bool fc, .bool fp, .bool fz, .bool fs, .bool fo, .bool fd], .int .u32 v, .int .u32 c] w fun e w' =>
   (∃ x0 x1 x2 x3 x4 x5 : Bool, e = .returned (.tuple #[.int .u32 (shV op v k), .agg #[.bool x0, .bool x1, .bool x2, .bool x3, .bool x4, .bool x5]])) ∧ Below w.heap.size w w' := by
  have h := do_any op fc fp fz fs fo fd v c h0 h1 (by omega) (by omega) w
  rw [show (c % 32).toNat = k by omega] at h
  exact h.mono fun _ _ ⟨h1, h2⟩ => ⟨⟨_, _, _, _, _, _, h1⟩, h2⟩

attribute [local go_sem] isSome_setCell
set_option maxRecDepth 100000 in
set_option maxHeartbeats 4000000 in
theorem twice_walk (fc fp fz fs fo fd : Bool) (v n m i : Int) (w : World) (h0 : 0 ≤ v) (h1 : v < 4294967296) (n0 : 0 ≤ n) (n1 : n < 256) (m0 : 0 ≤ m) (m1 : m < 256) (i0 : 0 ≤ i) (i1 : i < 256) :
    Calls Try.prog 4 #[.agg #[.bool fc, .bool fp, .bool fz, .bool fs, .bool fo, .bool fd], .int .u32 v, .int .u8 n, .int .u8 m, .int .u8 i] w fun e w' => e = .returned (.bool true) ∧ Below w.heap.size w w' := by
  obtain ⟨a, hn⟩ : ∃ k : Nat, n % 16 = k := ⟨(n % 16).toNat, by omega⟩
  obtain ⟨b, hm⟩ : ∃ k : Nat, m % 16 = k := ⟨(m % 16).toNat, by omega⟩
  have ha : a < 16 := by omega
  have hb : b < 16 := by omega
  obtain ⟨j, hj⟩ : ∃ k : Nat, i % 5 = k := ⟨(i % 5).toNat, by omega⟩
  have hj5 : j < 5 := by omega
  have ho : 26 + (j : Int) = 26 ∨ 26 + (j : Int) = 27 ∨ 26 + (j : Int) = 28 ∨ 26 + (j : Int) = 29 ∨ 26 + (j : Int) = 30 := by omega
  have hO := Lib.hid ho
  clear ho
  go_enter Try.func4, Try.ntmps4
  go_wp2_with (go_at_call 8; refine (known2_any _).mono ?_; rintro e w1 ⟨rfl, hb1⟩; have hq1 := six_made hb1)
  refine (t_do (26 + (j : Int)) v a a rfl (by omega) fc fp fz fs fo fd h0 h1 _).mono ?_
  rintro e w2 ⟨⟨x0, x1, x2, x3, x4, x5, rfl⟩, hb2⟩
  have l0 := shV_lo (26 + (j : Int)) v a h0
  have l1 := shV_hi (26 + (j : Int)) v a (by omega) h0 h1
  have hq2 := six_call hb2 hq1
  have hz2 := cell_lt hq2.1
  go_wp2_with fail
  refine (t_do (26 + (j : Int)) (shV (26 + (j : Int)) v a) b b rfl (by omega) x0 x1 x2 x3 x4 x5 l0 l1 _).mono ?_
  rintro e w3 ⟨⟨y0, y1, y2, y3, y4, y5, rfl⟩, hb3⟩
  rw [shV_twice _ v a b hO.out (by omega) h0 h1]
  have hq3 := six_next hb3 hq2
  have hz3 := cell_lt hq3.1
  clear hq1 hq2
  go_wp2_with fail
  refine (t_do (26 + (j : Int)) v ((a : Int) + (b : Int)) (a + b) (by omega) (by omega) fc fp fz fs fo fd h0 h1 _).mono ?_
  rintro e w4 ⟨⟨z0, z1, z2, z3, z4, z5, rfl⟩, hb4⟩
  have hq4 := six_next hb4 hq3
  have hz4 := cell_lt hq4.1
  clear hq3
  go_wp2_with fail
  refine (t_do 26 v a a rfl (by omega) fc fp fz fs fo fd h0 h1 _).mono ?_
  rintro e w5 ⟨⟨u0, u1, u2, u3, u4, u5, rfl⟩, hb5⟩
  have l2 := shV_lo 26 v a h0
  have l3 := shV_hi 26 v a (by omega) h0 h1
  have hq5 := six_next hb5 hq4
  have hz5 := cell_lt hq5.1
  clear hq4
  go_wp2_with fail
  refine (t_do 27 (shV 26 v a) a a rfl (by omega) fc fp fz fs fo fd l2 l3 _).mono ?_
  rintro e w6 ⟨⟨t0, t1, t2, t3, t4, t5, rfl⟩, hb6⟩
  rw [shV_back v a (by omega) h0 h1]
  clear hq5
  go_wp2_with fail
  go_ret
  have b1 := below_next (Below.refl _ _) hb1
  exact ⟨rfl, below_last (below_next (below_next (below_next (below_next (b1.trans (hb2.mono b1.size)) hb3) hb4) hb5) hb6) _⟩

theorem shiftTwice_own : ownKnob Try.prog.godebug = none := by kernel_rfl
set_option maxRecDepth 100000 in
theorem shiftTwice_lifted (os : Os) (started : os.Started) (H : Type) (enc : TypeId × Value → H) :
    ReturnsInHanded {} Try.checked os 4 .any (Rows.shiftTwiceSpec.pre6 enc Try.prog Try.f4 Rows.shiftTwiceRow.domain false) (Rows.shiftTwiceSpec.post enc Try.prog Try.f4 false true false false) := by
  refine returnsInHanded_of_change (C := Try.checked) shiftTwice_own started (by kernel_rfl) Try.func4
    (ChangeSpec.witness6 (enc := enc) (C := Try.checked) false ⟨#[], #[.agg #[.bool false, .bool false, .bool false, .bool false, .bool false, .bool false], .int .u32 0, .int .u8 0, .int .u8 0, .int .u8 0], []⟩ 8 (by kernel_rfl) (by kernel_rfl) (by kernel_rfl) (by kernel_rfl)) ?_
  intro W base args ds gs before hval0 hW hcnd _
  have hval : ∀ (j : Nat) t v, Try.f4.params[j]? = some t → args[j]? = some v → Value.okWide Try.prog W .any base t v := hval0
  have hW' := hW
  obtain ⟨p, q, hA0, hV, rfl, hfz, hnd⟩ := hW
  have hA : DataW.TrodAll enc Try.prog W 0 (fun _ => true) true Try.f4.params.toList args.toList ds p := hA0
  rw [Try.params4] at hA hval
  obtain ⟨v0, vs0, d0, ds0, p0, q0, hargs, rfl, rfl, h0, r0⟩ := trodAll_cons hA
  obtain ⟨v1, vs1, d1, ds1, p1, q1, rfl, rfl, rfl, h1, r1⟩ := trodAll_cons r0
  obtain ⟨v2, vs2, d2, ds2, p2, q2, rfl, rfl, rfl, h2, r2⟩ := trodAll_cons r1
  obtain ⟨v3, vs3, d3, ds3, p3, q3, rfl, rfl, rfl, h3, r3⟩ := trodAll_cons r2
  obtain ⟨v4, vs4, d4, ds4, p4, q4, rfl, rfl, rfl, h4, r4⟩ := trodAll_cons r3
  obtain ⟨rfl, rfl, rfl⟩ := trodAll_nil r4
  obtain rfl : args = #[v0, v1, v2, v3, v4] := by cases args; simp_all
  obtain ⟨rfl, rfl⟩ := trodVars_none hV
  obtain ⟨a0c, a0p, a0z, a0s, a0o, a0d, rfl, rfl, rfl⟩ := open_flags (hval 0 23 v0 rfl rfl) h0
  obtain ⟨a1, rfl, rfl, rfl, w1⟩ := open_int Try.underlying24 (hval 1 24 v1 rfl rfl) h1
  obtain ⟨a2, rfl, rfl, rfl, w2⟩ := open_int Try.underlying5 (hval 2 5 v2 rfl rfl) h2
  obtain ⟨a3, rfl, rfl, rfl, w3⟩ := open_int Try.underlying5 (hval 3 5 v3 rfl rfl) h3
  obtain ⟨a4, rfl, rfl, rfl, w4⟩ := open_int Try.underlying5 (hval 4 5 v4 rfl rfl) h4
  clear hA0 hval0
  simp only [List.append_nil] at hW'
  have b1 : 0 ≤ a1 ∧ a1 < 4294967296 := by
    have h := w1
    simp only [Lit.wf, Bool.and_eq_true, decide_eq_true_eq] at h
    have e1 : IntKind.u32.min = 0 := by decide
    have e2 : IntKind.u32.max = 4294967295 := by decide
    omega
  have b2 : 0 ≤ a2 ∧ a2 < 256 := by
    have h := w2
    simp only [Lit.wf, Bool.and_eq_true, decide_eq_true_eq] at h
    have e1 : IntKind.u8.min = 0 := by decide
    have e2 : IntKind.u8.max = 255 := by decide
    omega
  have b3 : 0 ≤ a3 ∧ a3 < 256 := by
    have h := w3
    simp only [Lit.wf, Bool.and_eq_true, decide_eq_true_eq] at h
    have e1 : IntKind.u8.min = 0 := by decide
    have e2 : IntKind.u8.max = 255 := by decide
    omega
  have b4 : 0 ≤ a4 ∧ a4 < 256 := by
    have h := w4
    simp only [Lit.wf, Bool.and_eq_true, decide_eq_true_eq] at h
    have e1 : IntKind.u8.min = 0 := by decide
    have e2 : IntKind.u8.max = 255 := by decide
    omega
  refine (twice_walk a0c a0p a0z a0s a0o a0d a1 a2 a3 a4 W b1.1 b1.2 b2.1 b2.2 b3.1 b3.2 b4.1 b4.2).mono fun e W' ⟨he, hg⟩ => ?_
  subst he
  exact ⟨_, rfl, post_plain hW' hg (fun sp => (trodAll_cons_mk (shut_flags _ _ _ _ _ _) (trodAll_cons_mk (shut_int Try.underlying24 w1) (trodAll_cons_mk (shut_int Try.underlying5 w2) (trodAll_cons_mk (shut_int Try.underlying5 w3) (trodAll_cons_mk (shut_int Try.underlying5 w4) trodAll_mk0)))))) (fun _ => rfl)
    (fun _ _ _ => (trodAll_cons_mk (shut_bool Try.underlying4 _) trodAll_mk0)) (ok_one (by kernel_rfl) rfl (okWide_bool_mk Try.underlying4 _))⟩

theorem shiftTwice_holds : Rows.ShiftTwiceSaid :=
  OpenClaim.holds_of_wide 4 Try.f4 rfl rfl rfl rfl rfl rfl rfl ⟨rfl, rfl, rfl, rfl, rfl⟩ rfl rfl rfl rfl rfl (by kernel_rfl) Try.func4 (by kernel_rfl)
    (of_decide_eq_true (by kernel_rfl)) (by unfold Func.isWrapper; first | (rw [if_pos (by decide +kernel)]; kernel_rfl) | (rw [if_neg (by decide +kernel)]; exact ⟨rfl, rfl⟩))
    (fun os started H enc _ => shiftTwice_lifted os started H enc)
#print axioms shiftTwice_holds
end Go.Proofs.Ytceahlpchlepaaa
