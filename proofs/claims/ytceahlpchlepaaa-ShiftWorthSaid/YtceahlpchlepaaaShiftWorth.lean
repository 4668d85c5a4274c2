/- A shift to the left is a product, one to the right a quotient, with sign or without: for every number and count. -/
import Derived.Test.YtceahlpchlepaaaKnown2
import Derived.Test.YtceahlpchlepaaaShut
namespace Go.Proofs.Ytceahlpchlepaaa
open Go.ChangeShapes Go.WideShapes Go.ChangeAt Go.RowKit

theorem w_do (op v r : Int) (k : Nat) (hk : k < 32) (hr : shV op v k = r) (h0 : 0 ≤ v) (h1 : v < 4294967296) (w : World) :
    Calls Try.prog 9 #[.int .i64 op, .agg #[.bool false, .bool false, .bool false, .bool false, .bool false, .bool false], .int .u32 v, .int .u32 k] w fun e w' =>
   (∃ x0 x1 x2 x3 x4 x5 : Bool, e = .returned (.tuple #[.int .u32 r, .agg #[.bool x0, .bool x1, .bool x2, .bool x3, .bool x4, .bool x5]])) ∧ Below w.heap.size w w' := by
  have h := do_any op false false false false false false v k h0 h1 (by omega) (by omega) w
  rw [show ((k : Int) % 32).toNat = k by omega, hr] at h
  exact h.mono fun _ _ ⟨h1, h2⟩ => ⟨⟨_, _, _, _, _, _, h1⟩, h2⟩
/-- Quotients by a power of two, towards nought, mended by the rest's sign, go down. -/
theorem floor_of (q d : Int) (hd : 0 < d) : (if q.tmod d < 0 then q.tdiv d - 1 else q.tdiv d) = q / d := by
  rcases Int.lt_or_le q 0 with h | h
  · obtain ⟨p, rfl⟩ : ∃ p : Int, q = -p := ⟨-q, by omega⟩
    have hp : 0 < p := by omega
    rw [Int.neg_tdiv, Int.neg_tmod, Int.tmod_eq_emod_of_nonneg (by omega), Int.tdiv_eq_ediv_of_nonneg (by omega)]
    have e := Int.emod_add_mul_ediv p d
    have g := Int.emod_nonneg p (Int.ne_of_gt hd)
    have l := Int.emod_lt_of_pos p hd
    split
    · have h3 : d * (-(p / d) - 1) = -(d * (p / d)) - d := by rw [Int.mul_sub, Int.mul_neg, Int.mul_one]
      have : -p = (d - p % d) + d * (-(p / d) - 1) := by omega
      have h4 : (d - p % d) / d = 0 := Int.ediv_eq_zero_of_lt (by omega) (by omega)
      have h5 : -p / d = (d - p % d) / d + (-(p / d) - 1) := by
        rw [← Int.add_mul_ediv_left _ _ (Int.ne_of_gt hd), ← this]
      omega
    · have hz : p % d = 0 := by omega
      have : -p = d * (-(p / d)) := by rw [Int.mul_neg]; omega
      rw [this, Int.mul_ediv_cancel_left _ (Int.ne_of_gt hd)]
  · rw [Int.tmod_eq_emod_of_nonneg h, Int.tdiv_eq_ediv_of_nonneg h, if_neg (by have := Int.emod_nonneg q (Int.ne_of_gt hd); omega)]

theorem pow_le30 (k : Nat) (hk : k < 31) : (2 : Int) ^ k ≤ 1073741824 := by
  rcases below32 (k := k) (by omega) with rfl | rfl | rfl | rfl | rfl | rfl | rfl | rfl | rfl | rfl | rfl | rfl | rfl | rfl | rfl | rfl | rfl | rfl | rfl | rfl | rfl | rfl | rfl | rfl | rfl | rfl | rfl | rfl | rfl | rfl | rfl | rfl <;> first | decide | omega
theorem div_between (q d : Int) (hd : 1 ≤ d) (h0 : -2147483648 ≤ q) (h1 : q ≤ 2147483647) : -2147483648 ≤ q / d ∧ q / d ≤ 2147483647 := by
  constructor
  · refine Int.le_ediv_of_mul_le (by omega) ?_
    have := Int.mul_le_mul_of_nonneg_left hd (show (0 : Int) ≤ 2147483648 by decide)
    omega
  · refine Int.ediv_le_of_le_mul (by omega) ?_
    have := Int.mul_le_mul_of_nonneg_left hd (show (0 : Int) ≤ 2147483647 by decide)
    omega
theorem tdiv_between (q d : Int) (hd : 1 ≤ d) (h0 : -2147483648 ≤ q) (h1 : q ≤ 2147483647) : -2147483648 ≤ q.tdiv d ∧ q.tdiv d ≤ 2147483647 := by
  rcases Int.lt_or_le q 0 with h | h
  · obtain ⟨p, rfl⟩ : ∃ p : Int, q = -p := ⟨-q, by omega⟩
    rw [Int.neg_tdiv, Int.tdiv_eq_ediv_of_nonneg (by omega)]
    have g := Int.ediv_le_self d (show 0 ≤ p by omega)
    have g0 := Int.ediv_nonneg (show 0 ≤ p by omega) (show 0 ≤ d by omega)
    have g1 : p / d ≤ p := Int.ediv_le_self _ (by omega)
    omega
  · rw [Int.tdiv_eq_ediv_of_nonneg h]
    exact div_between q d hd h0 h1

attribute [local go_sem] isSome_setCell
set_option maxRecDepth 100000 in
set_option maxHeartbeats 4000000 in
theorem worth_walk (v n : Int) (w : World) (h0 : 0 ≤ v) (h1 : v < 4294967296) (n0 : 0 ≤ n) (n1 : n < 256) :
    Calls Try.prog 5 #[.int .u32 v, .int .u8 n] w fun e w' => e = .returned (.bool true) ∧ Below w.heap.size w w' := by
  obtain ⟨k, hn⟩ : ∃ k : Nat, n % 31 = k := ⟨(n % 31).toNat, by omega⟩
  have hk : k < 31 := by omega
  have d0 : (1 : Int) ≤ 2 ^ k := Int.pow_pos (by decide)
  have d1 := pow_le30 k hk
  have q0 : -2147483648 ≤ wrap32 v := by unfold wrap32; omega
  have q1 : wrap32 v ≤ 2147483647 := by unfold wrap32; omega
  obtain ⟨D, hD⟩ : ∃ D : Int, (2 : Int) ^ k = D := ⟨_, rfl⟩
  obtain ⟨Q, hQ⟩ : ∃ Q : Int, wrap32 v = Q := ⟨_, rfl⟩
  have g1 : (shlV v k == v * D % 4294967296) = true := by unfold shlV; rw [hD]; simp
  have g2 : (shrV v k == v / D) = true := by unfold shrV; rw [hD]; simp
  have f0 := floor_of (wrap32 v) (2 ^ k) (by omega)
  have g3 : wrap32 (sarV v k) = wrap32 v / 2 ^ k := by
    obtain ⟨e1, e2⟩ := div_between (wrap32 v) (2 ^ k) d0 q0 q1
    unfold sarV
    generalize wrap32 v / 2 ^ k = r at *
    unfold wrap32
    omega
  rw [hD, hQ] at f0 g3
  rw [hD] at d0 d1
  rw [hQ] at q0 q1
  obtain ⟨t0, t1⟩ := tdiv_between Q D d0 q0 q1
  obtain ⟨r0, r1⟩ := div_between Q D d0 q0 q1
  have dz : (D == 0) = false := by rw [beq_eq_false_iff_ne]; omega
  by_cases hneg : Q.tmod D < 0
  · rw [if_pos hneg] at f0
    have g4 : (Q / D == Q.tdiv D - 1) = true := by rw [f0]; simp
    have f0' := Lib.hid f0
    clear f0
    go_enter Try.func5, Try.ntmps5
    go_wp2_with (go_at_call 8; refine (known2_any _).mono ?_; rintro e w1 ⟨rfl, hb1⟩)
    refine (w_do 28 v (shlV v k) k (by omega) (by rw [shV_is 28 v k (by decide) h0 h1]; rfl) h0 h1 _).mono ?_
    rintro e w2 ⟨⟨x0, x1, x2, x3, x4, x5, rfl⟩, hb2⟩
    go_wp2_with fail
    refine (w_do 29 v (shrV v k) k (by omega) (by rw [shV_is 29 v k (by decide) h0 h1]; rfl) h0 h1 _).mono ?_
    rintro e w3 ⟨⟨y0, y1, y2, y3, y4, y5, rfl⟩, hb3⟩
    go_wp2_with fail
    refine (w_do 30 v (sarV v k) k (by omega) (by rw [shV_is 30 v k (by decide) h0 h1]; rfl) h0 h1 _).mono ?_
    rintro e w4 ⟨⟨z0, z1, z2, z3, z4, z5, rfl⟩, hb4⟩
    go_wp2_with fail
    go_ret
    exact ⟨by simp, below_last (below_next (below_next (hb1.trans (hb2.mono hb1.size)) hb3) hb4) _⟩
  · rw [if_neg hneg] at f0
    have g4 : (Q / D == Q.tdiv D) = true := by rw [f0]; simp
    have f0' := Lib.hid f0
    clear f0
    go_enter Try.func5, Try.ntmps5
    go_wp2_with (go_at_call 8; refine (known2_any _).mono ?_; rintro e w1 ⟨rfl, hb1⟩)
    refine (w_do 28 v (shlV v k) k (by omega) (by rw [shV_is 28 v k (by decide) h0 h1]; rfl) h0 h1 _).mono ?_
    rintro e w2 ⟨⟨x0, x1, x2, x3, x4, x5, rfl⟩, hb2⟩
    go_wp2_with fail
    refine (w_do 29 v (shrV v k) k (by omega) (by rw [shV_is 29 v k (by decide) h0 h1]; rfl) h0 h1 _).mono ?_
    rintro e w3 ⟨⟨y0, y1, y2, y3, y4, y5, rfl⟩, hb3⟩
    go_wp2_with fail
    refine (w_do 30 v (sarV v k) k (by omega) (by rw [shV_is 30 v k (by decide) h0 h1]; rfl) h0 h1 _).mono ?_
    rintro e w4 ⟨⟨z0, z1, z2, z3, z4, z5, rfl⟩, hb4⟩
    go_wp2_with fail
    go_ret
    exact ⟨by simp, below_last (below_next (below_next (hb1.trans (hb2.mono hb1.size)) hb3) hb4) _⟩

theorem shiftWorth_own : ownKnob Try.prog.godebug = none := by kernel_rfl
set_option maxRecDepth 100000 in
theorem shiftWorth_lifted (os : Os) (started : os.Started) (H : Type) (enc : TypeId × Value → H) :
    ReturnsInHanded {} Try.checked os 5 .any (Rows.shiftWorthSpec.pre6 enc Try.prog Try.f5 Rows.shiftWorthRow.domain false) (Rows.shiftWorthSpec.post enc Try.prog Try.f5 false true false false) := by
  refine returnsInHanded_of_change (C := Try.checked) shiftWorth_own started (by kernel_rfl) Try.func5
    (ChangeSpec.witness6 (enc := enc) (C := Try.checked) false ⟨#[], #[.int .u32 0, .int .u8 0], []⟩ 8 (by kernel_rfl) (by kernel_rfl) (by kernel_rfl) (by kernel_rfl)) ?_
  intro W base args ds gs before hval0 hW hcnd _
  have hval : ∀ (j : Nat) t v, Try.f5.params[j]? = some t → args[j]? = some v → Value.okWide Try.prog W .any base t v := hval0
  have hW' := hW
  obtain ⟨p, q, hA0, hV, rfl, hfz, hnd⟩ := hW
  have hA : DataW.TrodAll enc Try.prog W 0 (fun _ => true) true Try.f5.params.toList args.toList ds p := hA0
  rw [Try.params5] at hA hval
  obtain ⟨v0, vs0, d0, ds0, p0, q0, hargs, rfl, rfl, h0, r0⟩ := trodAll_cons hA
  obtain ⟨v1, vs1, d1, ds1, p1, q1, rfl, rfl, rfl, h1, r1⟩ := trodAll_cons r0
  obtain ⟨rfl, rfl, rfl⟩ := trodAll_nil r1
  obtain rfl : args = #[v0, v1] := by cases args; simp_all
  obtain ⟨rfl, rfl⟩ := trodVars_none hV
  obtain ⟨a0, rfl, rfl, rfl, w0⟩ := open_int Try.underlying24 (hval 0 24 v0 rfl rfl) h0
  obtain ⟨a1, rfl, rfl, rfl, w1⟩ := open_int Try.underlying5 (hval 1 5 v1 rfl rfl) h1
  clear hA0 hval0
  simp only [List.append_nil] at hW'
  have b0 : 0 ≤ a0 ∧ a0 < 4294967296 := by
    have h := w0
    simp only [Lit.wf, Bool.and_eq_true, decide_eq_true_eq] at h
    have e1 : IntKind.u32.min = 0 := by decide
    have e2 : IntKind.u32.max = 4294967295 := by decide
    omega
  have b1 : 0 ≤ a1 ∧ a1 < 256 := by
    have h := w1
    simp only [Lit.wf, Bool.and_eq_true, decide_eq_true_eq] at h
    have e1 : IntKind.u8.min = 0 := by decide
    have e2 : IntKind.u8.max = 255 := by decide
    omega
  refine (worth_walk a0 a1 W b0.1 b0.2 b1.1 b1.2).mono fun e W' ⟨he, hg⟩ => ?_
  subst he
  exact ⟨_, rfl, post_plain hW' hg (fun sp => (trodAll_cons_mk (shut_int Try.underlying24 w0) (trodAll_cons_mk (shut_int Try.underlying5 w1) trodAll_mk0))) (fun _ => rfl)
    (fun _ _ _ => (trodAll_cons_mk (shut_bool Try.underlying4 _) trodAll_mk0)) (ok_one (by kernel_rfl) rfl (okWide_bool_mk Try.underlying4 _))⟩

theorem shiftWorth_holds : Rows.ShiftWorthSaid :=
  OpenClaim.holds_of_wide 5 Try.f5 rfl rfl rfl rfl rfl rfl rfl ⟨rfl, rfl, rfl, rfl, rfl⟩ rfl rfl rfl rfl rfl (by kernel_rfl) Try.func5 (by kernel_rfl)
    (of_decide_eq_true (by kernel_rfl)) (by unfold Func.isWrapper; first | (rw [if_pos (by decide +kernel)]; kernel_rfl) | (rw [if_neg (by decide +kernel)]; exact ⟨rfl, rfl⟩))
    (fun os started H enc _ => shiftWorth_lifted os started H enc)
#print axioms shiftWorth_holds
end Go.Proofs.Ytceahlpchlepaaa
