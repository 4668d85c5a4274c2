/- Which conditions hold of any flags, and their names, is the document's. -/
import Derived.Test.YtknpcohllghopaaKnown5
import Derived.Test.YtknpcohllghopaaShut
import Derived.Test.YtknpcohllghopaaCarry
import Derived.Deep.RegionHeld3
import Derived.IntWalk
namespace Go.Proofs.Ytknpcohllghopaa
open Go.ChangeShapes Go.WideShapes Go.ChangeAt Go.RowKit

attribute [local go_sem] isSome_setCell
set_option maxRecDepth 100000 in
set_option maxHeartbeats 4000000 in
theorem ctells_walk (c : Int) (fc fp fz fs fo fd : Bool) (w : World) (c0 : -9223372036854775808 ≤ c) (c1 : c ≤ 9223372036854775807) :
    Calls Try.prog 3 #[.int .i64 c, .agg #[.bool fc, .bool fp, .bool fz, .bool fs, .bool fo, .bool fd]] w fun e w' => e = .returned (.bool true) ∧ Below w.heap.size w w' := by
  go_enter Try.func3, Try.ntmps3
  go_wp2_with (go_at_call 6; refine (known5_any _).mono ?_; rintro e w0 ⟨rfl, hb0⟩; have hq0 := six_made hb0)
  have B0 := below_next (Below.refl w.heap.size w) hb0
  have hS0 : Below w.heap.size w w0 ∧ w.heap.size ≤ w0.heap.size ∧ w0.cell? ⟨w.heap.size, 0, none⟩ = some (.bool fc) ∧ w0.cell? ⟨w.heap.size, 1, none⟩ = some (.bool fp) ∧ w0.cell? ⟨w.heap.size, 2, none⟩ = some (.bool fz) ∧ w0.cell? ⟨w.heap.size, 3, none⟩ = some (.bool fs) ∧ w0.cell? ⟨w.heap.size, 4, none⟩ = some (.bool fo) ∧ w0.cell? ⟨w.heap.size, 5, none⟩ = some (.bool fd) := ⟨B0, B0.size, hq0⟩
  clear hb0 hq0
  go_loopw [5] (fun x wr => ∃ k : Int, -1 ≤ k ∧ k ≤ 17 ∧ x = .int .i64 k ∧ Below w.heap.size w wr ∧ w.heap.size ≤ wr.heap.size ∧ wr.cell? ⟨w.heap.size, 0, none⟩ = some (.bool fc) ∧ wr.cell? ⟨w.heap.size, 1, none⟩ = some (.bool fp) ∧ wr.cell? ⟨w.heap.size, 2, none⟩ = some (.bool fz) ∧ wr.cell? ⟨w.heap.size, 3, none⟩ = some (.bool fs) ∧ wr.cell? ⟨w.heap.size, 4, none⟩ = some (.bool fo) ∧ wr.cell? ⟨w.heap.size, 5, none⟩ = some (.bool fd)) (fun x _ => (17 - intOf x).toNat)
  case atStart => exact ⟨-1, by omega, by omega, rfl, hS0⟩
  case round =>
    obtain ⟨k, k0, k1, rfl, hBr, _, hqr⟩ := hrel
    clear hS0 B0
    by_cases hlt : k < 17
    · have hCk := cholds_any k fc fp fz fs fo fd (by omega) (by omega)
      have hd : decide (k < 17) = true := by simp; omega
      go_wp2_with fail
      have hK : ∀ (fn : FuncId) (args : Array Value) (v : Value), (∀ w, Calls Try.prog fn args w fun e w' => e = .returned v ∧ Below w.heap.size w w') → ∀ u : World, (Below w.heap.size w u ∧ w.heap.size ≤ u.heap.size ∧ u.cell? ⟨w.heap.size, 0, none⟩ = some (.bool fc) ∧ u.cell? ⟨w.heap.size, 1, none⟩ = some (.bool fp) ∧ u.cell? ⟨w.heap.size, 2, none⟩ = some (.bool fz) ∧ u.cell? ⟨w.heap.size, 3, none⟩ = some (.bool fs) ∧ u.cell? ⟨w.heap.size, 4, none⟩ = some (.bool fo) ∧ u.cell? ⟨w.heap.size, 5, none⟩ = some (.bool fd)) → Calls Try.prog fn args u fun e u' => e = .returned v ∧ (Below w.heap.size w u' ∧ w.heap.size ≤ u'.heap.size ∧ u'.cell? ⟨w.heap.size, 0, none⟩ = some (.bool fc) ∧ u'.cell? ⟨w.heap.size, 1, none⟩ = some (.bool fp) ∧ u'.cell? ⟨w.heap.size, 2, none⟩ = some (.bool fz) ∧ u'.cell? ⟨w.heap.size, 3, none⟩ = some (.bool fs) ∧ u'.cell? ⟨w.heap.size, 4, none⟩ = some (.bool fo) ∧ u'.cell? ⟨w.heap.size, 5, none⟩ = some (.bool fd)) := fun _ _ _ h u hu => carry6 h u hu
      obtain ⟨hc0, hc1, hc2, hc3, hc4, hc5⟩ := hqr
      have hS4 := hBr.size
      go_region_held3 (fun w' => Below w.heap.size w w' ∧ w.heap.size ≤ w'.heap.size ∧ w'.cell? ⟨w.heap.size, 0, none⟩ = some (.bool fc) ∧ w'.cell? ⟨w.heap.size, 1, none⟩ = some (.bool fp) ∧ w'.cell? ⟨w.heap.size, 2, none⟩ = some (.bool fz) ∧ w'.cell? ⟨w.heap.size, 3, none⟩ = some (.bool fs) ∧ w'.cell? ⟨w.heap.size, 4, none⟩ = some (.bool fo) ∧ w'.cell? ⟨w.heap.size, 5, none⟩ = some (.bool fd)) (first | (exact ⟨hBr.drew, by simpa using hS4, by simpa using hc0, by simpa using hc1, by simpa using hc2, by simpa using hc3, by simpa using hc4, by simpa using hc5⟩) | assumption | go_keep)
        (first | (go_at_call 7; first | ((with_reducible refine (hK _ _ _ hCk _ ?_).mono ?_); (first | assumption | simp [*]); rintro e w' ⟨rfl, hS'⟩)) | (go_at_call 8; first | ((with_reducible refine (hK _ _ _ (rholds_any k fc fp fz fs fo fd) _ ?_).mono ?_); (first | assumption | simp [*]); rintro e w' ⟨rfl, hS'⟩)) | (go_at_call 9; first | ((with_reducible refine (hK _ _ _ (cname_any k) _ ?_).mono ?_); (first | assumption | simp [*]); rintro e w' ⟨rfl, hS'⟩)) | (go_at_call 10; first | ((with_reducible refine (hK _ _ _ (rname_any k) _ ?_).mono ?_); (first | assumption | simp [*]); rintro e w' ⟨rfl, hS'⟩)))
      clear hK hc0 hc1 hc2 hc3 hc4 hc5
      go_wp2_with fail
      go_roundw
      case rel => exact ⟨k + 1, by omega, by omega, rfl, by assumption⟩
      case measure => simp [intOf]; omega
    · obtain rfl : k = 17 := by omega
      have hCc := cholds_any c fc fp fz fs fo fd c0 c1
      go_wp2_with fail
      have hK : ∀ (fn : FuncId) (args : Array Value) (v : Value), (∀ w, Calls Try.prog fn args w fun e w' => e = .returned v ∧ Below w.heap.size w w') → ∀ u : World, (Below w.heap.size w u ∧ w.heap.size ≤ u.heap.size ∧ u.cell? ⟨w.heap.size, 0, none⟩ = some (.bool fc) ∧ u.cell? ⟨w.heap.size, 1, none⟩ = some (.bool fp) ∧ u.cell? ⟨w.heap.size, 2, none⟩ = some (.bool fz) ∧ u.cell? ⟨w.heap.size, 3, none⟩ = some (.bool fs) ∧ u.cell? ⟨w.heap.size, 4, none⟩ = some (.bool fo) ∧ u.cell? ⟨w.heap.size, 5, none⟩ = some (.bool fd)) → Calls Try.prog fn args u fun e u' => e = .returned v ∧ (Below w.heap.size w u' ∧ w.heap.size ≤ u'.heap.size ∧ u'.cell? ⟨w.heap.size, 0, none⟩ = some (.bool fc) ∧ u'.cell? ⟨w.heap.size, 1, none⟩ = some (.bool fp) ∧ u'.cell? ⟨w.heap.size, 2, none⟩ = some (.bool fz) ∧ u'.cell? ⟨w.heap.size, 3, none⟩ = some (.bool fs) ∧ u'.cell? ⟨w.heap.size, 4, none⟩ = some (.bool fo) ∧ u'.cell? ⟨w.heap.size, 5, none⟩ = some (.bool fd)) := fun _ _ _ h u hu => carry6 h u hu
      obtain ⟨hc0, hc1, hc2, hc3, hc4, hc5⟩ := hqr
      have hS4 := hBr.size
      go_region_held3 (fun w' => Below w.heap.size w w' ∧ w.heap.size ≤ w'.heap.size ∧ w'.cell? ⟨w.heap.size, 0, none⟩ = some (.bool fc) ∧ w'.cell? ⟨w.heap.size, 1, none⟩ = some (.bool fp) ∧ w'.cell? ⟨w.heap.size, 2, none⟩ = some (.bool fz) ∧ w'.cell? ⟨w.heap.size, 3, none⟩ = some (.bool fs) ∧ w'.cell? ⟨w.heap.size, 4, none⟩ = some (.bool fo) ∧ w'.cell? ⟨w.heap.size, 5, none⟩ = some (.bool fd)) (first | (exact ⟨hBr.drew, by simpa using hS4, by simpa using hc0, by simpa using hc1, by simpa using hc2, by simpa using hc3, by simpa using hc4, by simpa using hc5⟩) | assumption | go_keep)
        (first | (go_at_call 7; first | ((with_reducible refine (hK _ _ _ hCc _ ?_).mono ?_); (first | assumption | simp [*]); rintro e w' ⟨rfl, hS'⟩)) | (go_at_call 8; first | ((with_reducible refine (hK _ _ _ (rholds_any c fc fp fz fs fo fd) _ ?_).mono ?_); (first | assumption | simp [*]); rintro e w' ⟨rfl, hS'⟩)) | (go_at_call 9; first | ((with_reducible refine (hK _ _ _ (cname_any c) _ ?_).mono ?_); (first | assumption | simp [*]); rintro e w' ⟨rfl, hS'⟩)) | (go_at_call 10; first | ((with_reducible refine (hK _ _ _ (rname_any c) _ ?_).mono ?_); (first | assumption | simp [*]); rintro e w' ⟨rfl, hS'⟩)))
      clear hK hc0 hc1 hc2 hc3 hc4 hc5
      go_wp2_with fail
      go_ret
      refine ⟨by simp, ?_⟩
      apply And.left
      assumption

theorem condTells_own : ownKnob Try.prog.godebug = none := by kernel_rfl
set_option maxRecDepth 100000 in
theorem condTells_lifted (os : Os) (started : os.Started) (H : Type) (enc : TypeId × Value → H) :
    ReturnsInHanded {} Try.checked os 3 .any (Rows.condTellsSpec.pre6 enc Try.prog Try.f3 Rows.condTellsRow.domain false) (Rows.condTellsSpec.post enc Try.prog Try.f3 false true false false) := by
  refine returnsInHanded_of_change (C := Try.checked) condTells_own started (by kernel_rfl) Try.func3
    (ChangeSpec.witness6 (enc := enc) (C := Try.checked) false ⟨#[], #[.int .i64 0, .agg #[.bool false, .bool false, .bool false, .bool false, .bool false, .bool false]], []⟩ 8 (by kernel_rfl) (by kernel_rfl) (by kernel_rfl) (by kernel_rfl)) ?_
  intro W base args ds gs before hval0 hW hcnd _
  have hval : ∀ (j : Nat) t v, Try.f3.params[j]? = some t → args[j]? = some v → Value.okWide Try.prog W .any base t v := hval0
  have hW' := hW
  obtain ⟨p, q, hA0, hV, rfl, hfz, hnd⟩ := hW
  have hA : DataW.TrodAll enc Try.prog W 0 (fun _ => true) true Try.f3.params.toList args.toList ds p := hA0
  rw [Try.params3] at hA hval
  obtain ⟨v0, vs0, d0, ds0, p0, q0, hargs, rfl, rfl, h0, r0⟩ := trodAll_cons hA
  obtain ⟨v1, vs1, d1, ds1, p1, q1, rfl, rfl, rfl, h1, r1⟩ := trodAll_cons r0
  obtain ⟨rfl, rfl, rfl⟩ := trodAll_nil r1
  obtain rfl : args = #[v0, v1] := by cases args; simp_all
  obtain ⟨rfl, rfl⟩ := trodVars_none hV
  obtain ⟨a0, rfl, rfl, rfl, w0⟩ := open_int Try.underlying3 (hval 0 3 v0 rfl rfl) h0
  obtain ⟨a1c, a1p, a1z, a1s, a1o, a1d, rfl, rfl, rfl⟩ := open_flags (hval 1 23 v1 rfl rfl) h1
  clear hA0 hval0
  simp only [List.append_nil] at hW'
  have b0 : -9223372036854775808 ≤ a0 ∧ a0 ≤ 9223372036854775807 := by
    have h := w0
    simp only [Lit.wf, Bool.and_eq_true, decide_eq_true_eq] at h
    have e1 : IntKind.i64.min = -9223372036854775808 := by decide
    have e2 : IntKind.i64.max = 9223372036854775807 := by decide
    omega
  refine (ctells_walk a0 a1c a1p a1z a1s a1o a1d W b0.1 b0.2).mono fun e W' ⟨he, hg⟩ => ?_
  subst he
  exact ⟨_, rfl, post_plain hW' hg (fun sp => (trodAll_cons_mk (shut_int Try.underlying3 w0) (trodAll_cons_mk (shut_flags _ _ _ _ _ _) trodAll_mk0))) (fun _ => rfl)
    (fun _ _ _ => (trodAll_cons_mk (shut_bool Try.underlying4 _) trodAll_mk0)) (ok_one (by kernel_rfl) rfl (okWide_bool_mk Try.underlying4 _))⟩

theorem condTells_holds : Rows.CondTellsSaid :=
  OpenClaim.holds_of_wide 3 Try.f3 rfl rfl rfl rfl rfl rfl rfl ⟨rfl, rfl, rfl, rfl, rfl⟩ rfl rfl rfl rfl rfl (by kernel_rfl) Try.func3 (by kernel_rfl)
    (of_decide_eq_true (by kernel_rfl)) (by unfold Func.isWrapper; first | (rw [if_pos (by decide +kernel)]; kernel_rfl) | (rw [if_neg (by decide +kernel)]; exact ⟨rfl, rfl⟩))
    (fun os started H enc _ => condTells_lifted os started H enc)
#print axioms condTells_holds
end Go.Proofs.Ytknpcohllghopaa
