/- Just one of two neighbours holds: for every condition and flags. -/
import Derived.Test.YtknpcohllghopaaKnown5
import Derived.Test.YtknpcohllghopaaShut
import Derived.Test.YtknpcohllghopaaCarry
import Derived.Deep.RegionHeld3
import Derived.IntWalk
namespace Go.Proofs.Ytknpcohllghopaa
open Go.ChangeShapes Go.WideShapes Go.ChangeAt Go.RowKit

attribute [local go_sem] isSome_setCell
set_option maxRecDepth 100000 in
set_option maxHeartbeats 4000000 in
theorem turns_walk (k : Int) (fc fp fz fs fo fd : Bool) (w : World) (k0 : 0 ≤ k) (k1 : k < 256) :
    Calls Try.prog 4 #[.int .u8 k, .agg #[.bool fc, .bool fp, .bool fz, .bool fs, .bool fo, .bool fd]] w fun e w' => e = .returned (.bool true) ∧ Below w.heap.size w w' := by
  obtain ⟨j, hj⟩ : ∃ j : Nat, k % 8 = j := ⟨(k % 8).toNat, by omega⟩
  have hj8 : j < 8 := by omega
  have h1 := cholds_any (2 * (j : Int)) fc fp fz fs fo fd (by omega) (by omega)
  have h2 := cholds_any (2 * (j : Int) + 1) fc fp fz fs fo fd (by omega) (by omega)
  rw [condH_in _ _ _ _ _ _ (by omega) (by omega), show (2 * (j : Int) / 2).toNat = j by omega, show (2 * (j : Int) % 2 == 1) = false by rw [beq_eq_false_iff_ne]; omega] at h1
  rw [condH_in _ _ _ _ _ _ (by omega) (by omega), show ((2 * (j : Int) + 1) / 2).toNat = j by omega, show ((2 * (j : Int) + 1) % 2 == 1) = true by rw [beq_iff_eq]; omega] at h2
  generalize condP j fc fp fz fs fo = B at *
  go_enter Try.func4, Try.ntmps4
  go_wp2_with (go_at_call 6; refine (known5_any _).mono ?_; rintro e w0 ⟨rfl, hb0⟩; have hq0 := six_made hb0)
  have B0 := below_next (Below.refl w.heap.size w) hb0
  clear hb0
  have hW1 : IntKind.i64.wrap (2 * (j : Int)) = 2 * (j : Int) := IntWalk.i64_in _ (by omega)
  have hW2 : IntKind.i64.wrap (2 * (j : Int) + 1) = 2 * (j : Int) + 1 := IntWalk.i64_in _ (by omega)
  have hK : ∀ (fn : FuncId) (args : Array Value) (v : Value), (∀ w, Calls Try.prog fn args w fun e w' => e = .returned v ∧ Below w.heap.size w w') → ∀ u : World, (Below w.heap.size w u ∧ w.heap.size ≤ u.heap.size ∧ u.cell? ⟨w.heap.size, 0, none⟩ = some (.bool fc) ∧ u.cell? ⟨w.heap.size, 1, none⟩ = some (.bool fp) ∧ u.cell? ⟨w.heap.size, 2, none⟩ = some (.bool fz) ∧ u.cell? ⟨w.heap.size, 3, none⟩ = some (.bool fs) ∧ u.cell? ⟨w.heap.size, 4, none⟩ = some (.bool fo) ∧ u.cell? ⟨w.heap.size, 5, none⟩ = some (.bool fd)) → Calls Try.prog fn args u fun e u' => e = .returned v ∧ (Below w.heap.size w u' ∧ w.heap.size ≤ u'.heap.size ∧ u'.cell? ⟨w.heap.size, 0, none⟩ = some (.bool fc) ∧ u'.cell? ⟨w.heap.size, 1, none⟩ = some (.bool fp) ∧ u'.cell? ⟨w.heap.size, 2, none⟩ = some (.bool fz) ∧ u'.cell? ⟨w.heap.size, 3, none⟩ = some (.bool fs) ∧ u'.cell? ⟨w.heap.size, 4, none⟩ = some (.bool fo) ∧ u'.cell? ⟨w.heap.size, 5, none⟩ = some (.bool fd)) := fun _ _ _ h u hu => carry6 h u hu
  obtain ⟨hc0, hc1, hc2, hc3, hc4, hc5⟩ := hq0
  have hS4 := B0.size
  go_region_held3 (fun w' => Below w.heap.size w w' ∧ w.heap.size ≤ w'.heap.size ∧ w'.cell? ⟨w.heap.size, 0, none⟩ = some (.bool fc) ∧ w'.cell? ⟨w.heap.size, 1, none⟩ = some (.bool fp) ∧ w'.cell? ⟨w.heap.size, 2, none⟩ = some (.bool fz) ∧ w'.cell? ⟨w.heap.size, 3, none⟩ = some (.bool fs) ∧ w'.cell? ⟨w.heap.size, 4, none⟩ = some (.bool fo) ∧ w'.cell? ⟨w.heap.size, 5, none⟩ = some (.bool fd)) (first | (exact ⟨B0.drew, by simpa using hS4, by simpa using hc0, by simpa using hc1, by simpa using hc2, by simpa using hc3, by simpa using hc4, by simpa using hc5⟩) | assumption | go_keep)
    (first | (go_at_call 7; first | ((with_reducible refine (hK _ _ _ (h1) _ ?_).mono ?_); (first | assumption | simp [*]); rintro e w' ⟨rfl, hS'⟩) | ((with_reducible refine (hK _ _ _ (h2) _ ?_).mono ?_); (first | assumption | simp [*]); rintro e w' ⟨rfl, hS'⟩)))
  obtain ⟨B2, _⟩ := hS'
  clear hW1 hW2 hK hc0 hc1 hc2 hc3 hc4 hc5
  go_wp2_with fail
  go_ret
  exact ⟨by cases B <;> rfl, B2⟩

theorem condTurns_own : ownKnob Try.prog.godebug = none := by kernel_rfl
set_option maxRecDepth 100000 in
theorem condTurns_lifted (os : Os) (started : os.Started) (H : Type) (enc : TypeId × Value → H) :
    ReturnsInHanded {} Try.checked os 4 .any (Rows.condTurnsSpec.pre6 enc Try.prog Try.f4 Rows.condTurnsRow.domain false) (Rows.condTurnsSpec.post enc Try.prog Try.f4 false true false false) := by
  refine returnsInHanded_of_change (C := Try.checked) condTurns_own started (by kernel_rfl) Try.func4
    (ChangeSpec.witness6 (enc := enc) (C := Try.checked) false ⟨#[], #[.int .u8 0, .agg #[.bool false, .bool false, .bool false, .bool false, .bool false, .bool false]], []⟩ 8 (by kernel_rfl) (by kernel_rfl) (by kernel_rfl) (by kernel_rfl)) ?_
  intro W base args ds gs before hval0 hW hcnd _
  have hval : ∀ (j : Nat) t v, Try.f4.params[j]? = some t → args[j]? = some v → Value.okWide Try.prog W .any base t v := hval0
  have hW' := hW
  obtain ⟨p, q, hA0, hV, rfl, hfz, hnd⟩ := hW
  have hA : DataW.TrodAll enc Try.prog W 0 (fun _ => true) true Try.f4.params.toList args.toList ds p := hA0
  rw [Try.params4] at hA hval
  obtain ⟨v0, vs0, d0, ds0, p0, q0, hargs, rfl, rfl, h0, r0⟩ := trodAll_cons hA
  obtain ⟨v1, vs1, d1, ds1, p1, q1, rfl, rfl, rfl, h1, r1⟩ := trodAll_cons r0
  obtain ⟨rfl, rfl, rfl⟩ := trodAll_nil r1
  obtain rfl : args = #[v0, v1] := by cases args; simp_all
  obtain ⟨rfl, rfl⟩ := trodVars_none hV
  obtain ⟨a0, rfl, rfl, rfl, w0⟩ := open_int Try.underlying5 (hval 0 5 v0 rfl rfl) h0
  obtain ⟨a1c, a1p, a1z, a1s, a1o, a1d, rfl, rfl, rfl⟩ := open_flags (hval 1 23 v1 rfl rfl) h1
  clear hA0 hval0
  simp only [List.append_nil] at hW'
  have b0 : 0 ≤ a0 ∧ a0 < 256 := by
    have h := w0
    simp only [Lit.wf, Bool.and_eq_true, decide_eq_true_eq] at h
    have e1 : IntKind.u8.min = 0 := by decide
    have e2 : IntKind.u8.max = 255 := by decide
    omega
  refine (turns_walk a0 a1c a1p a1z a1s a1o a1d W b0.1 b0.2).mono fun e W' ⟨he, hg⟩ => ?_
  subst he
  exact ⟨_, rfl, post_plain hW' hg (fun sp => (trodAll_cons_mk (shut_int Try.underlying5 w0) (trodAll_cons_mk (shut_flags _ _ _ _ _ _) trodAll_mk0))) (fun _ => rfl)
    (fun _ _ _ => (trodAll_cons_mk (shut_bool Try.underlying4 _) trodAll_mk0)) (ok_one (by kernel_rfl) rfl (okWide_bool_mk Try.underlying4 _))⟩

theorem condTurns_holds : Rows.CondTurnsSaid :=
  OpenClaim.holds_of_wide 4 Try.f4 rfl rfl rfl rfl rfl rfl rfl ⟨rfl, rfl, rfl, rfl, rfl⟩ rfl rfl rfl rfl rfl (by kernel_rfl) Try.func4 (by kernel_rfl)
    (of_decide_eq_true (by kernel_rfl)) (by unfold Func.isWrapper; first | (rw [if_pos (by decide +kernel)]; kernel_rfl) | (rw [if_neg (by decide +kernel)]; exact ⟨rfl, rfl⟩))
    (fun os started H enc _ => condTurns_lifted os started H enc)
#print axioms condTurns_holds
end Go.Proofs.Ytknpcohllghopaa
