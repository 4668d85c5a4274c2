/- Which bit is told as the one that went out, for every number, count and flags. -/
import Derived.Test.YtceahlpchlepaaaKnown2
import Derived.Test.YtceahlpchlepaaaShut
namespace Go.Proofs.Ytceahlpchlepaaa
open Go.ChangeShapes Go.WideShapes Go.ChangeAt Go.RowKit

theorem out_count (k : Nat) (hk : k < 31) : (((k : Int) + 1) % 32).toNat = k + 1 := by omega
theorem not_kept (op : Int) (k : Nat) (ho : isSh op = true) : kept op (k + 1) = false := by
  unfold kept; rw [ho]; rfl
theorem out_shl (fc fp fz fs fo fd : Bool) (v : Int) (k : Nat) (hk : k < 31) (h0 : 0 ≤ v) (h1 : v < 4294967296) (w : World) :
    Calls Try.prog 9 #[.int .i64 28, .agg #[.bool fc, .bool fp, .bool fz, .bool fs, .bool fo, .bool fd], .int .u32 v, .int .u32 ((k : Int) + 1)] w fun e w' =>
   (∃ (x : Int) (x1 x2 x3 x4 : Bool), e = .returned (.tuple #[.int .u32 x, .agg #[.bool (bt v (31 - k)), .bool x1, .bool x2, .bool x3, .bool x4, .bool fd]])) ∧ Below w.heap.size w w' := by
  have h := do_any 28 fc fp fz fs fo fd v ((k : Int) + 1) h0 h1 (by omega) (by omega) w
  rw [out_count k hk] at h
  simp only [sfC, not_kept 28 k (by decide)] at h
  simp [shl_out v k hk] at h
  exact h.mono fun _ _ ⟨h1, h2⟩ => ⟨⟨_, _, _, _, _, h1⟩, h2⟩
theorem out_shr (fc fp fz fs fo fd : Bool) (v : Int) (k : Nat) (hk : k < 31) (h0 : 0 ≤ v) (h1 : v < 4294967296) (w : World) :
    Calls Try.prog 9 #[.int .i64 29, .agg #[.bool fc, .bool fp, .bool fz, .bool fs, .bool fo, .bool fd], .int .u32 v, .int .u32 ((k : Int) + 1)] w fun e w' =>
   (∃ (x : Int) (x1 x2 x3 x4 : Bool), e = .returned (.tuple #[.int .u32 x, .agg #[.bool (bt v k), .bool x1, .bool x2, .bool x3, .bool x4, .bool fd]])) ∧ Below w.heap.size w w' := by
  have h := do_any 29 fc fp fz fs fo fd v ((k : Int) + 1) h0 h1 (by omega) (by omega) w
  rw [out_count k hk] at h
  simp only [sfC, not_kept 29 k (by decide)] at h
  simp [shr_out v k] at h
  exact h.mono fun _ _ ⟨h1, h2⟩ => ⟨⟨_, _, _, _, _, h1⟩, h2⟩
theorem out_sar (fc fp fz fs fo fd : Bool) (v : Int) (k : Nat) (hk : k < 31) (h0 : 0 ≤ v) (h1 : v < 4294967296) (w : World) :
    Calls Try.prog 9 #[.int .i64 30, .agg #[.bool fc, .bool fp, .bool fz, .bool fs, .bool fo, .bool fd], .int .u32 v, .int .u32 ((k : Int) + 1)] w fun e w' =>
   (∃ (x : Int) (x1 x2 x3 : Bool), e = .returned (.tuple #[.int .u32 x, .agg #[.bool (bt v k), .bool x1, .bool x2, .bool x3, .bool false, .bool fd]])) ∧ Below w.heap.size w w' := by
  have h := do_any 30 fc fp fz fs fo fd v ((k : Int) + 1) h0 h1 (by omega) (by omega) w
  rw [out_count k hk] at h
  simp only [sfC, sfO, not_kept 30 k (by decide)] at h
  simp [sar_out v k hk] at h
  exact h.mono fun _ _ ⟨h1, h2⟩ => ⟨⟨_, _, _, _, h1⟩, h2⟩

attribute [local go_sem] isSome_setCell
set_option maxRecDepth 100000 in
set_option maxHeartbeats 4000000 in
theorem out_walk (v n : Int) (fc fp fz fs fo fd : Bool) (w : World) (h0 : 0 ≤ v) (h1 : v < 4294967296) (n0 : 0 ≤ n) (n1 : n < 256) :
    Calls Try.prog 6 #[.int .u32 v, .int .u8 n, .agg #[.bool fc, .bool fp, .bool fz, .bool fs, .bool fo, .bool fd]] w fun e w' => e = .returned (.bool true) ∧ Below w.heap.size w w' := by
  obtain ⟨k, hn⟩ : ∃ k : Nat, n % 31 = k := ⟨(n % 31).toNat, by omega⟩
  have hk : k < 31 := by omega
  have hA := bt_low v (31 - k) h0 h1
  have hB := bt_low v k h0 h1
  go_enter Try.func6, Try.ntmps6
  go_wp2_with (go_at_call 8; refine (known2_any _).mono ?_; rintro e w1 ⟨rfl, hb1⟩; have hq1 := six_made hb1)
  refine (out_shl fc fp fz fs fo fd v k hk h0 h1 _).mono ?_
  rintro e w2 ⟨⟨x, x1, x2, x3, x4, rfl⟩, hb2⟩
  have hq2 := six_call hb2 hq1
  have hz2 := cell_lt hq2.1
  go_wp2_with fail
  refine (out_shr fc fp fz fs fo fd v k hk h0 h1 _).mono ?_
  rintro e w3 ⟨⟨y, y1, y2, y3, y4, rfl⟩, hb3⟩
  have hq3 := six_next hb3 hq2
  have hr3 := six_made hb3
  have hz3 := cell_lt hq3.1
  go_wp2_with fail
  refine (out_sar fc fp fz fs fo fd v k hk h0 h1 _).mono ?_
  rintro e w4 ⟨⟨z, z1, z2, z3, rfl⟩, hb4⟩
  have hq4 := six_next hb4 hq3
  have hr4 := six_next hb4 hr3
  have hs4 := six_made hb4
  have hz4 := cell_lt hq4.1
  have hz5 := cell_lt hr4.1
  have hz6 := cell_lt hs4.1
  clear hq1 hq2 hq3 hr3
  go_wp2_with fail
  go_ret
  exact ⟨rfl, below_last (below_next (below_next ((below_next (Below.refl _ _) hb1).trans (hb2.mono (below_next (Below.refl _ _) hb1).size)) hb3) hb4) _⟩

theorem shiftOut_own : ownKnob Try.prog.godebug = none := by kernel_rfl
set_option maxRecDepth 100000 in
theorem shiftOut_lifted (os : Os) (started : os.Started) (H : Type) (enc : TypeId × Value → H) :
    ReturnsInHanded {} Try.checked os 6 .any (Rows.shiftOutSpec.pre6 enc Try.prog Try.f6 Rows.shiftOutRow.domain false) (Rows.shiftOutSpec.post enc Try.prog Try.f6 false true false false) := by
  refine returnsInHanded_of_change (C := Try.checked) shiftOut_own started (by kernel_rfl) Try.func6
    (ChangeSpec.witness6 (enc := enc) (C := Try.checked) false ⟨#[], #[.int .u32 0, .int .u8 0, .agg #[.bool false, .bool false, .bool false, .bool false, .bool false, .bool false]], []⟩ 8 (by kernel_rfl) (by kernel_rfl) (by kernel_rfl) (by kernel_rfl)) ?_
  intro W base args ds gs before hval0 hW hcnd _
  have hval : ∀ (j : Nat) t v, Try.f6.params[j]? = some t → args[j]? = some v → Value.okWide Try.prog W .any base t v := hval0
  have hW' := hW
  obtain ⟨p, q, hA0, hV, rfl, hfz, hnd⟩ := hW
  have hA : DataW.TrodAll enc Try.prog W 0 (fun _ => true) true Try.f6.params.toList args.toList ds p := hA0
  rw [Try.params6] at hA hval
  obtain ⟨v0, vs0, d0, ds0, p0, q0, hargs, rfl, rfl, h0, r0⟩ := trodAll_cons hA
  obtain ⟨v1, vs1, d1, ds1, p1, q1, rfl, rfl, rfl, h1, r1⟩ := trodAll_cons r0
  obtain ⟨v2, vs2, d2, ds2, p2, q2, rfl, rfl, rfl, h2, r2⟩ := trodAll_cons r1
  obtain ⟨rfl, rfl, rfl⟩ := trodAll_nil r2
  obtain rfl : args = #[v0, v1, v2] := by cases args; simp_all
  obtain ⟨rfl, rfl⟩ := trodVars_none hV
  obtain ⟨a0, rfl, rfl, rfl, w0⟩ := open_int Try.underlying24 (hval 0 24 v0 rfl rfl) h0
  obtain ⟨a1, rfl, rfl, rfl, w1⟩ := open_int Try.underlying5 (hval 1 5 v1 rfl rfl) h1
  obtain ⟨a2c, a2p, a2z, a2s, a2o, a2d, rfl, rfl, rfl⟩ := open_flags (hval 2 23 v2 rfl rfl) h2
  clear hA0 hval0
  simp only [List.append_nil] at hW'
  have b0 : 0 ≤ a0 ∧ a0 < 4294967296 := by
    have h := w0
    simp only [Lit.wf, Bool.and_eq_true, decide_eq_true_eq] at h
    have e1 : IntKind.u32.min = 0 := by decide
    have e2 : IntKind.u32.max = 4294967295 := by decide
    omega
  have b1 : 0 ≤ a1 ∧ a1 < 256 := by
    have h := w1
    simp only [Lit.wf, Bool.and_eq_true, decide_eq_true_eq] at h
    have e1 : IntKind.u8.min = 0 := by decide
    have e2 : IntKind.u8.max = 255 := by decide
    omega
  refine (out_walk a0 a1 a2c a2p a2z a2s a2o a2d W b0.1 b0.2 b1.1 b1.2).mono fun e W' ⟨he, hg⟩ => ?_
  subst he
  exact ⟨_, rfl, post_plain hW' hg (fun sp => (trodAll_cons_mk (shut_int Try.underlying24 w0) (trodAll_cons_mk (shut_int Try.underlying5 w1) (trodAll_cons_mk (shut_flags _ _ _ _ _ _) trodAll_mk0)))) (fun _ => rfl)
    (fun _ _ _ => (trodAll_cons_mk (shut_bool Try.underlying4 _) trodAll_mk0)) (ok_one (by kernel_rfl) rfl (okWide_bool_mk Try.underlying4 _))⟩

theorem shiftOut_holds : Rows.ShiftOutSaid :=
  OpenClaim.holds_of_wide 6 Try.f6 rfl rfl rfl rfl rfl rfl rfl ⟨rfl, rfl, rfl, rfl, rfl⟩ rfl rfl rfl rfl rfl (by kernel_rfl) Try.func6 (by kernel_rfl)
    (of_decide_eq_true (by kernel_rfl)) (by unfold Func.isWrapper; first | (rw [if_pos (by decide +kernel)]; kernel_rfl) | (rw [if_neg (by decide +kernel)]; exact ⟨rfl, rfl⟩))
    (fun os started H enc _ => shiftOut_lifted os started H enc)
#print axioms shiftOut_holds
end Go.Proofs.Ytceahlpchlepaaa
