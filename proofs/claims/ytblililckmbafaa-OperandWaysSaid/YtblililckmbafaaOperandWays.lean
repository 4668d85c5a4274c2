/- Each way of base, index, scale and number is told by bytes of its own. -/
import Derived.Test.YtblililckmbafaaKnown9
import Derived.Test.YtblililckmbafaaAppend9
import Derived.Test.YtblililckmbafaaShut
namespace Go.Proofs.Ytblililckmbafaa
open Go.ChangeShapes Go.WideShapes Go.ChangeAt Go.RowKit

set_option maxRecDepth 100000 in
set_option maxHeartbeats 1000000 in
theorem oways_walk (a b d g : Int) (w : World) (a0 : 0 ≤ a) (a1 : a < 256) (b0 : 0 ≤ b) (b1 : b < 256) (d0 : 0 ≤ d) (d1 : d < 4294967296) (g0 : 0 ≤ g) (g1 : g < 256) :
    Calls Try.prog 4 #[.int .u8 a, .int .u8 b, .int .u32 d, .int .u8 g] w fun e w' => e = .returned (.bool true) ∧ Below w.heap.size w w' := by
  have n1 : bits .and .u8 g 7 = g % 8 := and7 _ g0 g1
  have n2 : bits .and .u8 a 7 = a % 8 := and7 _ a0 a1
  have hw8 : IntKind.u8.wrap (g % 8 * 8) = g % 8 * 8 := by rw [IntKind.wrap_u8]; omega
  have hwi : IntKind.i64.wrap (g % 8) = g % 8 := by rw [IntKind.wrap_i64]; omega
  go_enter Try.func4, Try.ntmps4
  go_wp2_with fail
  refine (known9_any _).mono ?_
  rintro e w0 ⟨rfl, B0⟩
  have HB0 := Lib.hid B0
  clear B0
  go_wp2_with fail
  go_loopw [9] (fun v9 wr => ∃ k : Int, (k = 0 ∨ k = 1 ∨ k = 2 ∨ k = 3) ∧ v9 = .int .u8 k ∧ Below w.heap.size w wr) (fun v9 _ => 3 - (intOf v9).toNat)
  case atStart => exact ⟨0, .inl rfl, rfl, HB0.out⟩
  case round =>
    obtain ⟨k, hk, rfl, hbr⟩ := hrel
    have HB := Lib.hid hbr
    clear hbr
    by_cases hlt : k < 3
    · have hd : decide (k < 3) = true := decide_eq_true hlt
      obtain ⟨M, hM⟩ : ∃ M, M = k * 64 + g % 8 * 8 + a % 8 := ⟨_, rfl⟩
      have m0 : 0 ≤ M ∧ M < 256 := by omega
      have m3 : M / 64 ≠ 3 := by omega
      have m8 : M / 8 % 8 = g % 8 := by omega
      have hkk : IntKind.u8.wrap (k * 64) = k * 64 := by rw [IntKind.wrap_u8]; omega
      have o1 : bits .or .u8 (k * 64) (g % 8 * 8) = k * 64 + g % 8 * 8 := by
        have := or_add8 6 (g % 8 * 8) k (by omega) (by show _ < (64 : Int); omega) (by omega) (by show _ + k * 64 < _; omega)
        rw [show ((2 ^ 6 : Nat) : Int) = 64 from rfl] at this
        rw [this]; omega
      have o2 : bits .or .u8 (k * 64 + g % 8 * 8) (a % 8) = M := by
        have := or_add8 3 (a % 8) (k * 8 + g % 8) (by omega) (by show _ < (8 : Int); omega) (by omega) (by show _ + (k * 8 + g % 8) * 8 < _; omega)
        rw [show ((2 ^ 3 : Nat) : Int) = 8 from rfl, show (k * 8 + g % 8) * 8 = k * 64 + g % 8 * 8 by omega] at this
        rw [this, hM]; omega
      obtain ⟨o, n, hrm⟩ := rm_six M [b, d % 256, d / 256 % 256, d / 65536 % 256, d / 16777216] m3 (Nat.le_refl _)
      have hby : ∀ i, 0 ≤ lst [M, b, d % 256, d / 256 % 256, d / 65536 % 256, d / 16777216] i ∧ lst [M, b, d % 256, d / 256 % 256, d / 65536 % 256, d / 16777216] i < 256 := lst_ok (fun y hy => by
        simp only [List.mem_cons, List.not_mem_nil, or_false] at hy
        rcases hy with rfl | rfl | rfl | rfl | rfl | rfl <;> omega)
      rw [m8] at hrm
      replace hrm : rmF 6 (lst [M, b, d % 256, d / 256 % 256, d / 65536 % 256, d / 16777216]) = some (o, g % 8, n) := hrm
      obtain ⟨ok1, ok2, ok3, ok4, ok5, ok6, ok7⟩ := read_ok hby hrm m3
      obtain ⟨K, R, B, I, S, D⟩ := o
      obtain rfl : K = 3 := ok1.1
      obtain rfl : R = 0 := ok1.2.1
      have hV := Lib.hid (rmV_some hrm)
      replace ok3 : 0 ≤ D ∧ D < 4294967296 := ok3
      have hpr := Lib.hid (put_read (g % 8) ⟨3, 0, B, I, S, D⟩ ok2.1 ok2.2 ok3.1 ok3.2 ok1 (fun i => (putF (g % 8) ⟨3, 0, B, I, S, D⟩).getD i 0) (fun _ _ => rfl))
      have hputok : putOk (g % 8) ⟨3, 0, B, I, S, D⟩ := ⟨ok2.1, ok2.2, .inr ok1⟩
      have HK := Lib.hid ok1
      have HP := Lib.hid hputok
      have HBY := Lib.hid hby
      have hpl := ok7
      have HPR := Lib.hid (rmV_some hpr.out)
      obtain ⟨P, hP⟩ : ∃ P, P = putF (g % 8) ⟨3, 0, B, I, S, D⟩ := ⟨_, rfl⟩
      have hPb : ∀ i, 0 ≤ P.getD i 0 ∧ P.getD i 0 < 256 := by rw [hP]; exact putF_ok _ _ ok2.1 ok2.2 ok1
      rw [← hP] at HPR hpl
      have HPB := Lib.hid hPb
      have HPE := Lib.hid hP
      clear hPb hP hpr ok7
      have hk' : 0 ≤ k := by omega
      clear hM m0 m3 m8 hrm hputok hby ok1 hk
      go_wp2_with (at_builtin; go_loud (refine append_bytes rfl (.tmp 37) (.tmp 49) rfl (.slice (some ⟨wr.heap.size, 0, none⟩) 2 2) (.slice (some ⟨wr.heap.size + 1, 0, none⟩) 4 4) [M, b] [d % 256, d / 256 % 256, d / 65536 % 256, d / 16777216] rfl rfl _ rfl (slc_new2 wr _ _ _ _ 2 2 [M, b] (Nat.le_refl _) (by intro i hi; match i, hi with | 0, _ => rfl | 1, _ => rfl)) (slc_at _ _ (by simp) _ _ 4 4 _ (Nat.le_refl _) (by intro i hi; match i, hi with | 0, _ => rfl | 1, _ => rfl | 2, _ => rfl | 3, _ => rfl)) (by simp) (by simp) ?_); intro v' w1 hs1 hb1; have HS1 := Lib.hid hs1; have HB1 := Lib.hid (below_step (below_last (below_last HB.out _) _) hb1); clear hs1 hb1)
      have hs1 := HS1.out
      obtain ⟨y, cap, rfl⟩ := hs1.len
      clear hs1
      refine (mrread_any _ 6 _ HBY.out _ HS1.out (by decide)).mono ?_
      rintro e w2 ⟨rfl, B2⟩
      rw [hV.out]
      have HB2 := Lib.hid (below_step HB1.out B2)
      clear B2
      go_wp2_with fail
      refine (mrright_any ⟨3, 0, B, I, S, D⟩ _).mono ?_
      rintro e w3 ⟨rfl, B3⟩
      rw [decide_eq_true HK.out]
      obtain ⟨⟨q0, q1, q2, q3, q4, q5⟩, hz3⟩ := six_kept B3
      have HB3 := Lib.hid (below_step (below_last HB2.out _) B3)
      clear B3
      go_wp2_with fail
      refine (mrput_any (g % 8) ⟨3, 0, B, I, S, D⟩ ok3.1 ok3.2 _).mono ?_
      rintro e w4 ⟨v4, rfl, hs4, B4⟩
      rw [if_pos HP.out] at hs4 ⊢
      rw [← HPE.out] at hs4
      obtain ⟨y4, cap4, rfl⟩ := hs4.len
      have HS4 := Lib.hid hs4
      obtain ⟨p0, p1, p2, p3, p4, p5⟩ : w4.cell? ⟨w2.heap.size, 0, none⟩ = some (.int .i64 3) ∧ w4.cell? ⟨w2.heap.size, 1, none⟩ = some (.int .i64 0) ∧ w4.cell? ⟨w2.heap.size, 2, none⟩ = some (.int .i64 B) ∧ w4.cell? ⟨w2.heap.size, 3, none⟩ = some (.int .i64 I) ∧ w4.cell? ⟨w2.heap.size, 4, none⟩ = some (.int .i64 S) ∧ w4.cell? ⟨w2.heap.size, 5, none⟩ = some (.int .u32 D) :=
        ⟨cell_call B4 q0, cell_call B4 q1, cell_call B4 q2, cell_call B4 q3, cell_call B4 q4, cell_call B4 q5⟩
      have HB4 := Lib.hid (below_step HB3.out B4)
      have hz4 : w2.heap.size < w4.heap.size := Nat.lt_of_lt_of_le hz3 B4.size
      clear hs4 B4 q0 q1 q2 q3 q4 q5 hz3
      go_wp2_with fail
      refine (mrread_any _ P.length _ HPB.out _ HS4.out (by unfold maxLen; omega)).mono ?_
      rintro e w5 ⟨rfl, B5⟩
      rw [HPR.out]
      obtain ⟨p0, p1, p2, p3, p4, p5⟩ : w5.cell? ⟨w2.heap.size, 0, none⟩ = some (.int .i64 3) ∧ w5.cell? ⟨w2.heap.size, 1, none⟩ = some (.int .i64 0) ∧ w5.cell? ⟨w2.heap.size, 2, none⟩ = some (.int .i64 B) ∧ w5.cell? ⟨w2.heap.size, 3, none⟩ = some (.int .i64 I) ∧ w5.cell? ⟨w2.heap.size, 4, none⟩ = some (.int .i64 S) ∧ w5.cell? ⟨w2.heap.size, 5, none⟩ = some (.int .u32 D) :=
        ⟨cell_call B5 p0, cell_call B5 p1, cell_call B5 p2, cell_call B5 p3, cell_call B5 p4, cell_call B5 p5⟩
      have HB5 := Lib.hid (below_step HB4.out B5)
      have hz5 : w2.heap.size < w5.heap.size := Nat.lt_of_lt_of_le hz4 B5.size
      clear B5 hz4
      have hwk : IntKind.u8.wrap (k + 1) = k + 1 := by rw [IntKind.wrap_u8]; omega
      have hpn : decide ((n : Int) < (P.length : Int)) = false := decide_eq_false (by omega)
      go_wp2_with fail
      go_roundw
      case rel => exact ⟨k + 1, by omega, rfl, below_last HB5.out _⟩
      case measure => simp [intOf]; omega
    · obtain rfl : k = 3 := by omega
      go_wp2
      go_ret
      exact ⟨rfl, HB.out⟩

theorem operandWays_own : ownKnob Try.prog.godebug = none := by kernel_rfl
set_option maxRecDepth 100000 in
theorem operandWays_lifted (os : Os) (started : os.Started) (H : Type) (enc : TypeId × Value → H) :
    ReturnsInHanded {} Try.checked os 4 .any (Rows.operandWaysSpec.pre6 enc Try.prog Try.f4 Rows.operandWaysRow.domain false) (Rows.operandWaysSpec.post enc Try.prog Try.f4 false true false false) := by
  refine returnsInHanded_of_change (C := Try.checked) operandWays_own started (by kernel_rfl) Try.func4
    (ChangeSpec.witness6 (enc := enc) (C := Try.checked) false ⟨#[], #[.int .u8 0, .int .u8 0, .int .u32 0, .int .u8 0], []⟩ 8 (by kernel_rfl) (by kernel_rfl) (by kernel_rfl) (by kernel_rfl)) ?_
  intro W base args ds gs before hval0 hW hcnd _
  have hval : ∀ (j : Nat) t v, Try.f4.params[j]? = some t → args[j]? = some v → Value.okWide Try.prog W .any base t v := hval0
  have hW' := hW
  obtain ⟨p, q, hA0, hV, rfl, hfz, hnd⟩ := hW
  have hA : DataW.TrodAll enc Try.prog W 0 (fun _ => true) true Try.f4.params.toList args.toList ds p := hA0
  rw [Try.params4] at hA hval
  obtain ⟨v0, vs0, d0, ds0, p0, q0, hargs, rfl, rfl, h0, r0⟩ := trodAll_cons hA
  obtain ⟨v1, vs1, d1, ds1, p1, q1, rfl, rfl, rfl, h1, r1⟩ := trodAll_cons r0
  obtain ⟨v2, vs2, d2, ds2, p2, q2, rfl, rfl, rfl, h2, r2⟩ := trodAll_cons r1
  obtain ⟨v3, vs3, d3, ds3, p3, q3, rfl, rfl, rfl, h3, r3⟩ := trodAll_cons r2
  obtain ⟨rfl, rfl, rfl⟩ := trodAll_nil r3
  obtain rfl : args = #[v0, v1, v2, v3] := by cases args; simp_all
  obtain ⟨rfl, rfl⟩ := trodVars_none hV
  obtain ⟨a0, rfl, rfl, rfl, w0⟩ := open_int Try.underlying5 (hval 0 5 v0 rfl rfl) h0
  obtain ⟨a1, rfl, rfl, rfl, w1⟩ := open_int Try.underlying5 (hval 1 5 v1 rfl rfl) h1
  obtain ⟨a2, rfl, rfl, rfl, w2⟩ := open_int Try.underlying23 (hval 2 23 v2 rfl rfl) h2
  obtain ⟨a3, rfl, rfl, rfl, w3⟩ := open_int Try.underlying5 (hval 3 5 v3 rfl rfl) h3
  clear hA0 hval0
  simp only [List.append_nil] at hW'
  have b0 : 0 ≤ a0 ∧ a0 < 256 := by
    have h := w0
    simp only [Lit.wf, Bool.and_eq_true, decide_eq_true_eq] at h
    have e1 : IntKind.u8.min = 0 := by decide
    have e2 : IntKind.u8.max = 255 := by decide
    omega
  have b1 : 0 ≤ a1 ∧ a1 < 256 := by
    have h := w1
    simp only [Lit.wf, Bool.and_eq_true, decide_eq_true_eq] at h
    have e1 : IntKind.u8.min = 0 := by decide
    have e2 : IntKind.u8.max = 255 := by decide
    omega
  have b2 : 0 ≤ a2 ∧ a2 < 4294967296 := by
    have h := w2
    simp only [Lit.wf, Bool.and_eq_true, decide_eq_true_eq] at h
    have e1 : IntKind.u32.min = 0 := by decide
    have e2 : IntKind.u32.max = 4294967295 := by decide
    omega
  have b3 : 0 ≤ a3 ∧ a3 < 256 := by
    have h := w3
    simp only [Lit.wf, Bool.and_eq_true, decide_eq_true_eq] at h
    have e1 : IntKind.u8.min = 0 := by decide
    have e2 : IntKind.u8.max = 255 := by decide
    omega
  refine (oways_walk a0 a1 a2 a3 W b0.1 b0.2 b1.1 b1.2 b2.1 b2.2 b3.1 b3.2).mono fun e W' ⟨he, hg⟩ => ?_
  subst he
  exact ⟨_, rfl, post_plain hW' hg (fun sp => (trodAll_cons_mk (shut_int Try.underlying5 w0) (trodAll_cons_mk (shut_int Try.underlying5 w1) (trodAll_cons_mk (shut_int Try.underlying23 w2) (trodAll_cons_mk (shut_int Try.underlying5 w3) trodAll_mk0))))) (fun _ => rfl)
    (fun _ _ _ => (trodAll_cons_mk (shut_bool Try.underlying4 _) trodAll_mk0)) (ok_one (by kernel_rfl) rfl (okWide_bool_mk Try.underlying4 _))⟩

theorem operandWays_holds : Rows.OperandWaysSaid :=
  OpenClaim.holds_of_wide 4 Try.f4 rfl rfl rfl rfl rfl rfl rfl ⟨rfl, rfl, rfl, rfl, rfl⟩ rfl rfl rfl rfl rfl (by kernel_rfl) Try.func4 (by kernel_rfl)
    (of_decide_eq_true (by kernel_rfl)) (by unfold Func.isWrapper; first | (rw [if_pos (by decide +kernel)]; kernel_rfl) | (rw [if_neg (by decide +kernel)]; exact ⟨rfl, rfl⟩))
    (fun os started H enc _ => operandWays_lifted os started H enc)
#print axioms operandWays_holds
end Go.Proofs.Ytblililckmbafaa
