/- A number's lowest bytes, its sign, its parity, what logic tells and one step are the document's: for every number of 32 bits, every size, step and flags. -/
import Derived.Test.YtdnmbehkejjmmaaKnown1
import Derived.Test.YtdnmbehkejjmmaaShut
import Derived.Test.YtdnmbehkejjmmaaRef1b
import Derived.Test.YtdnmbehkejjmmaaStep
namespace Go.Proofs.Ytdnmbehkejjmmaa
open Go.ChangeShapes Go.WideShapes Go.ChangeAt Go.RowKit

/-- The sizes that the statement goes through. -/
def partSizes (n : Int) (k : Nat) : Int := match k with | 0 => n | 1 => 1 | 2 => 2 | _ => 4

attribute [local go_sem] isSome_setCell flags_guard flags_eql flags_neq
set_option maxRecDepth 100000 in
set_option maxHeartbeats 4000000 in
theorem parts_walk (v n i : Int) (fc fp fz fs fo fd : Bool) (w : World) (h0 : 0 ≤ v) (h1 : v < 4294967296) :
    Calls Try.prog 4 #[.int .u32 v, .int .i64 n, .int .i64 i, .agg #[.bool fc, .bool fp, .bool fz, .bool fs, .bool fo, .bool fd]] w fun e w' => e = .returned (.bool true) ∧ Below w.heap.size w w' := by
  go_enter Try.func4, Try.ntmps4
  go_wp2_with (go_at_call 9; refine (known1_any _).mono ?_; rintro e w1 ⟨rfl, hb1⟩; obtain ⟨hc1, hf1⟩ := bcell hb1)
  have hz1 := bsize hb1
  have hq1 : w1.cell? ⟨w.heap.size, 0, none⟩ = some (.bool fc) ∧ w1.cell? ⟨w.heap.size, 1, none⟩ = some (.bool fp) ∧ w1.cell? ⟨w.heap.size, 2, none⟩ = some (.bool fz) ∧ w1.cell? ⟨w.heap.size, 3, none⟩ = some (.bool fs) ∧ w1.cell? ⟨w.heap.size, 4, none⟩ = some (.bool fo) ∧ w1.cell? ⟨w.heap.size, 5, none⟩ = some (.bool fd) := six_made hb1
  go_loopw [24] (fun j wr => ∃ k : Nat, k ≤ 4 ∧ j = .int .i64 k ∧ Below (w1.heap.size + 1) (w1.alloc (.cells #[.int .i64 n, .int .i64 1, .int .i64 2, .int .i64 4] 3)) wr) (fun j _ => 4 - (intOf j).toNat)
  case atStart => exact ⟨0, by omega, rfl, Below.refl _ _⟩
  case round =>
    obtain ⟨k, hk, rfl, hr⟩ := hrel
    have hB : Below w.heap.size w wr := (below_next (Below.refl _ _) hb1).alloc (by omega) _ |>.trans (hr.mono (by omega))
    by_cases hlt : k < 4
    · have hcell : wr.cell? ⟨w1.heap.size, k, none⟩ = some (.int .i64 (partSizes n k)) := by
        rw [hr.cell (by simp)]
        obtain rfl | rfl | rfl | rfl : k = 0 ∨ k = 1 ∨ k = 2 ∨ k = 3 := by omega
        all_goals simp [partSizes]
      have hs := hr.size
      have hs1 : w1.heap.size + 1 ≤ wr.heap.size := by simpa using hs
      have hqr := six_call' hr (by omega) hq1
      clear hc1 hf1 hq1
      generalize partSizes n k = m at hcell
      go_wp2_with fail
      refine (logic_any v m _).mono ?_
      rintro e w2 ⟨rfl, hb2⟩
      have hz2 := hb2.size
      have hq2 := six_call hb2 hqr
      clear hqr hcell
      go_wp2_with fail
      refine (rlogic_any v m _ h0 h1).mono ?_
      rintro e w3 ⟨rfl, hb3⟩
      have hz3 := bsize hb3
      have hz31 : w.heap.size < w3.heap.size := by omega
      have hq3 := six_next hb3 hq2
      have hr3 := six_made hb3
      clear hq2
      go_wp2_with fail
      refine (step_any fc fp fz fs fo fd v m i _).mono ?_
      rintro e w4 ⟨rfl, hb4⟩
      have hz4 := bsize hb4
      have hz41 : w.heap.size < w4.heap.size := by omega
      have hq4 := six_next hb4 hq3
      have hr4 := six_next hb4 hr3
      have ht4 := six_made hb4
      clear hq3 hr3
      go_wp2_with fail
      refine (rstep_any fc fp fz fs fo fd v m i h0 h1 _).mono ?_
      rintro e w5 ⟨rfl, hb5⟩
      have hz5 := bsize hb5
      have hz51 : w2.heap.size < w5.heap.size := by omega
      have hz52 : w3.heap.size < w5.heap.size := by omega
      have hr5 := six_next hb5 hr4
      have ht5 := six_next hb5 ht4
      have hu5 := six_made hb5
      clear hr4 ht4 hq4
      go_wp2_with (first | (go_at_call 18; refine (cut_any _ _ _).mono ?_; rintro e w' ⟨rfl, rfl⟩) | (go_at_call 19; refine (rcut_any _ _ _ h0 h1).mono ?_; rintro e w' ⟨rfl, rfl⟩) |
        (go_at_call 20; refine (signed_any _ _ _).mono ?_; rintro e w' ⟨rfl, rfl⟩) | (go_at_call 21; refine (rsigned_any _ _ _ h0 h1).mono ?_; rintro e w' ⟨rfl, rfl⟩))
      go_roundw
      case rel =>
        exact ⟨k + 1, by omega, by go_num, ((below_on (below_on (below_on (hr.trans (hb2.mono (by omega))) (by omega) hb3) (by omega) hb4) (by omega) hb5).alloc (by omega) _)⟩
      case measure => simp [intOf]; omega
    · obtain rfl : k = 4 := by omega
      go_wp2_with (first | (go_at_call 22; refine (parity_any _ _).mono ?_; rintro e w' ⟨rfl, rfl⟩) | (go_at_call 23; refine (rparity_any _ _ h0 h1).mono ?_; rintro e w' ⟨rfl, rfl⟩))
      go_ret
      exact ⟨by simp, hB⟩

theorem arithParts_own : ownKnob Try.prog.godebug = none := by kernel_rfl
set_option maxRecDepth 100000 in
theorem arithParts_lifted (os : Os) (started : os.Started) (H : Type) (enc : TypeId × Value → H) :
    ReturnsInHanded {} Try.checked os 4 .any (Rows.arithPartsSpec.pre6 enc Try.prog Try.f4 Rows.arithPartsRow.domain false) (Rows.arithPartsSpec.post enc Try.prog Try.f4 false true false false) := by
  refine returnsInHanded_of_change (C := Try.checked) arithParts_own started (by kernel_rfl) Try.func4
    (ChangeSpec.witness6 (enc := enc) (C := Try.checked) false ⟨#[], #[.int .u32 0, .int .i64 0, .int .i64 0, .agg #[.bool false, .bool false, .bool false, .bool false, .bool false, .bool false]], []⟩ 8 (by kernel_rfl) (by kernel_rfl) (by kernel_rfl) (by kernel_rfl)) ?_
  intro W base args ds gs before hval0 hW hcnd _
  have hval : ∀ (j : Nat) t v, Try.f4.params[j]? = some t → args[j]? = some v → Value.okWide Try.prog W .any base t v := hval0
  have hW' := hW
  obtain ⟨p, q, hA0, hV, rfl, hfz, hnd⟩ := hW
  have hA : DataW.TrodAll enc Try.prog W 0 (fun _ => true) true Try.f4.params.toList args.toList ds p := hA0
  rw [Try.params4] at hA hval
  obtain ⟨v0, vs0, d0, ds0, p0, q0, hargs, rfl, rfl, h0, r0⟩ := trodAll_cons hA
  obtain ⟨v1, vs1, d1, ds1, p1, q1, rfl, rfl, rfl, h1, r1⟩ := trodAll_cons r0
  obtain ⟨v2, vs2, d2, ds2, p2, q2, rfl, rfl, rfl, h2, r2⟩ := trodAll_cons r1
  obtain ⟨v3, vs3, d3, ds3, p3, q3, rfl, rfl, rfl, h3, r3⟩ := trodAll_cons r2
  obtain ⟨rfl, rfl, rfl⟩ := trodAll_nil r3
  obtain rfl : args = #[v0, v1, v2, v3] := by cases args; simp_all
  obtain ⟨rfl, rfl⟩ := trodVars_none hV
  obtain ⟨a0, rfl, rfl, rfl, w0⟩ := open_int Try.underlying22 (hval 0 22 v0 rfl rfl) h0
  obtain ⟨a1, rfl, rfl, rfl, w1⟩ := open_int Try.underlying3 (hval 1 3 v1 rfl rfl) h1
  obtain ⟨a2, rfl, rfl, rfl, w2⟩ := open_int Try.underlying3 (hval 2 3 v2 rfl rfl) h2
  obtain ⟨a3c, a3p, a3z, a3s, a3o, a3d, rfl, rfl, rfl⟩ := open_flags (hval 3 26 v3 rfl rfl) h3
  clear hA0 hval0
  simp only [List.append_nil] at hW'
  have b0 : 0 ≤ a0 ∧ a0 < 4294967296 := by
    have h := w0
    simp only [Lit.wf, Bool.and_eq_true, decide_eq_true_eq] at h
    have e1 : IntKind.u32.min = 0 := by decide
    have e2 : IntKind.u32.max = 4294967295 := by decide
    omega
  refine (parts_walk a0 a1 a2 a3c a3p a3z a3s a3o a3d W b0.1 b0.2).mono fun e W' ⟨he, hg⟩ => ?_
  subst he
  exact ⟨_, rfl, post_plain hW' hg (fun sp => (trodAll_cons_mk (shut_int Try.underlying22 w0) (trodAll_cons_mk (shut_int Try.underlying3 w1) (trodAll_cons_mk (shut_int Try.underlying3 w2) (trodAll_cons_mk (shut_flags _ _ _ _ _ _) trodAll_mk0))))) (fun _ => rfl)
    (fun _ _ _ => (trodAll_cons_mk (shut_bool Try.underlying4 _) trodAll_mk0)) (ok_one (by kernel_rfl) rfl (okWide_bool_mk Try.underlying4 _))⟩

theorem arithParts_holds : Rows.ArithPartsSaid :=
  OpenClaim.holds_of_wide 4 Try.f4 rfl rfl rfl rfl rfl rfl rfl ⟨rfl, rfl, rfl, rfl, rfl⟩ rfl rfl rfl rfl rfl (by kernel_rfl) Try.func4 (by kernel_rfl)
    (of_decide_eq_true (by kernel_rfl)) (by unfold Func.isWrapper; first | (rw [if_pos (by decide +kernel)]; kernel_rfl) | (rw [if_neg (by decide +kernel)]; exact ⟨rfl, rfl⟩))
    (fun os started H enc _ => arithParts_lifted os started H enc)
#print axioms arithParts_holds
end Go.Proofs.Ytdnmbehkejjmmaa
