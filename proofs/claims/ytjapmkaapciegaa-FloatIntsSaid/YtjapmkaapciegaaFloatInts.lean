/- Which flags two doubles have, which ints they are, which doubles ints are, is the document's. -/
import Derived.Test.YtjapmkaapciegaaSeat4
import Derived.Deep.RegionHeld3
import Derived.Test.YtjapmkaapciegaaShut
namespace Go.Proofs.Ytjapmkaapciegaa
open Go.ChangeShapes Go.WideShapes Go.ChangeAt Go.RowKit
theorem risnan_b (a : Nat) (h1 : a < 18446744073709551616) (w : World) : Calls Try.prog 20 #[.int .u64 (a : Int)] w fun e w' => e = .returned (.bool (nanB a)) ∧ Below w.heap.size w w' :=
  (risnan_any a h1 w).mono fun _ _ ⟨he, hw⟩ => ⟨he, by rw [← hw]; exact Below.refl _ _⟩
theorem rquiet_b (a : Nat) (h1 : a < 18446744073709551616) (w : World) : Calls Try.prog 22 #[.int .u64 (a : Int)] w fun e w' => e = .returned (.int .u64 (quietN a : Nat)) ∧ Below w.heap.size w w' :=
  (rquiet_any a h1 w).mono fun _ _ ⟨he, hw⟩ => ⟨he, by rw [← hw]; exact Below.refl _ _⟩
def pairX (a c : Nat) (i : Nat) : Nat := match i with | 0 => a | 1 => c | _ => a
def pairY (a b d : Nat) (i : Nat) : Nat := match i with | 0 => b | 1 => d | _ => a
theorem pairX_lt (a c i : Nat) (h0 : a < 18446744073709551616) (h1 : c < 18446744073709551616) : pairX a c i < 18446744073709551616 := by unfold pairX; split <;> assumption
theorem pairY_lt (a b d i : Nat) (h0 : a < 18446744073709551616) (h1 : b < 18446744073709551616) (h2 : d < 18446744073709551616) : pairY a b d i < 18446744073709551616 := by unfold pairY; split <;> assumption
theorem from_lt (v : Int) (v0 : 0 ≤ v) (v1 : v < 4294967296) : fromN v < 18446744073709551616 := by
  have h := from_whole (wrap32 v) (by unfold wrap32; omega) (by unfold wrap32; omega)
  rw [show wrap32 v % 4294967296 = v by unfold wrap32; omega] at h
  exact h.1
theorem there_back (v : Int) (v0 : 0 ≤ v) (v1 : v < 4294967296) : toN (fromN v) = v := by
  have h := from_whole (wrap32 v) (by unfold wrap32; omega) (by unfold wrap32; omega)
  have e : wrap32 v % 4294967296 = v := by unfold wrap32; omega
  rw [e] at h
  rw [whole_to h (by rw [sgd_abs]; unfold wrap32; omega) (by rw [sgd_abs]; unfold wrap32; omega), sgd_abs, e]
/-- A call that makes memory alone leaves two worlds below, and two cells. -/
theorem carry2 {f : FuncId} {args : Array Value} {v x y : Value} {B1 B2 : Nat} {W1 W2 : World} {p q : Addr} (h : ∀ w, Calls Try.prog f args w fun e w' => e = .returned v ∧ Below w.heap.size w w') (w : World)
    (hw : Below B1 W1 w ∧ B1 ≤ w.heap.size ∧ Below B2 W2 w ∧ B2 ≤ w.heap.size ∧ w.cell? p = some x ∧ w.cell? q = some y) :
    Calls Try.prog f args w fun e w' => e = .returned v ∧ (Below B1 W1 w' ∧ B1 ≤ w'.heap.size ∧ Below B2 W2 w' ∧ B2 ≤ w'.heap.size ∧ w'.cell? p = some x ∧ w'.cell? q = some y) := by
  obtain ⟨h1, k1, h2, k2, hp, hq⟩ := hw
  refine (h w).mono fun e w' ⟨he, hb⟩ => ⟨he, h1.trans (hb.mono k1), Nat.le_trans k1 hb.size, h2.trans (hb.mono k2), Nat.le_trans k2 hb.size, cell_call hb hp, cell_call hb hq⟩
attribute [local go_sem] isSome_setCell flags_guard flags_eql flags_neq
set_option maxRecDepth 100000 in
set_option maxHeartbeats 4000000 in
theorem fints_walk (a b : Nat) (v : Int) (w : World) (a1 : a < 18446744073709551616) (b1 : b < 18446744073709551616) (v0 : 0 ≤ v) (v1 : v < 4294967296) :
    Calls Try.prog 4 #[.int .u64 (a : Int), .int .u64 (b : Int), .int .u32 v] w fun e w' => e = .returned (.bool true) ∧ Below w.heap.size w w' := by
  go_enter Try.func4, Try.ntmps4
  go_wp2_with (go_at_call 11; refine (known4_any _).mono ?_; rintro e w0 ⟨rfl, B0⟩)
  refine (double_any a a1 _).mono ?_
  rintro e w1 ⟨c, c1, rfl, hb1⟩
  go_wp2_with fail
  refine (double_any b b1 _).mono ?_
  rintro e w2 ⟨d, d1, rfl, hb2⟩
  go_wp2_with fail
  have B2 := (B0.trans (hb1.mono B0.size)).trans (hb2.mono (B0.trans (hb1.mono B0.size)).size)
  go_loopw [24] (fun x wr => ∃ i : Nat, i ≤ 3 ∧ x = .int .i64 i ∧ Below (w2.heap.size + 1) (w2.alloc (.cells #[.int .u64 (a : Int), .int .u64 (b : Int), .int .u64 (c : Int), .int .u64 (d : Int), .int .u64 (a : Int), .int .u64 (a : Int)] 25)) wr) (fun x _ => 3 - (intOf x).toNat)
  case atStart => exact ⟨0, by omega, rfl, Below.refl _ _⟩
  case round =>
    obtain ⟨i, hi, rfl, hr⟩ := hrel
    have hB : Below w.heap.size w wr := (B2.alloc (by have := B2.size; omega) _).trans (hr.mono (by have := B2.size; omega))
    by_cases hlt : i < 3
    · have hc0 : wr.cell? ⟨w2.heap.size, i * 2, none⟩ = some (.int .u64 (pairX a c i : Nat)) := by
        rw [hr.cell (by simp)]
        obtain rfl | rfl | rfl : i = 0 ∨ i = 1 ∨ i = 2 := by omega
        all_goals simp [pairX]
      have hc1 : wr.cell? ⟨w2.heap.size, i * 2 + 1, none⟩ = some (.int .u64 (pairY a b d i : Nat)) := by
        rw [hr.cell (by simp)]
        obtain rfl | rfl | rfl : i = 0 ∨ i = 1 ∨ i = 2 := by omega
        all_goals simp [pairY]
      have x1 := pairX_lt a c i a1 c1
      have y1 := pairY_lt a b d i a1 b1 d1
      generalize pairX a c i = x at *
      generalize pairY a b d i = y at *
      obtain ⟨wo, hwo⟩ : ∃ wo : World, wo = wr := ⟨_, rfl⟩
      rw [← hwo] at hr hB hc0 hc1 ⊢
      clear hwo
      have hd : decide ((i : Int) < 3) = true := by simp; omega
      go_wp2_with fail
      have hS0 : Below w.heap.size w (wo.alloc (.cells #[.int .u64 (x : Int), .int .u64 (y : Int)] 25)) := hB.alloc hB.size _
      have hS1 := hr.alloc (by simpa using hr.size) (.cells #[.int .u64 (x : Int), .int .u64 (y : Int)] 25)
      have hS2 : (wo.alloc (.cells #[.int .u64 (x : Int), .int .u64 (y : Int)] 25)).cell? ⟨wo.heap.size, 0, none⟩ = some (.int .u64 (x : Int)) := by simp
      have hS3 : (wo.alloc (.cells #[.int .u64 (x : Int), .int .u64 (y : Int)] 25)).cell? ⟨wo.heap.size, 1, none⟩ = some (.int .u64 (y : Int)) := by simp
      clear hc0 hc1
      generalize wo.alloc (.cells #[.int .u64 (x : Int), .int .u64 (y : Int)] 25) = W at *
      have hS4 := hS0.size
      have hS5 := hS1.size
      have hK : ∀ (f : FuncId) (args : Array Value) (v : Value), (∀ w, Calls Try.prog f args w fun e w' => e = .returned v ∧ Below w.heap.size w w') → ∀ u : World, (Below w.heap.size w u ∧ w.heap.size ≤ u.heap.size ∧ Below (w2.heap.size + 1) (w2.alloc (.cells #[.int .u64 (a : Int), .int .u64 (b : Int), .int .u64 (c : Int), .int .u64 (d : Int), .int .u64 (a : Int), .int .u64 (a : Int)] 25)) u ∧ w2.heap.size + 1 ≤ u.heap.size ∧ u.cell? ⟨wo.heap.size, 0, none⟩ = some (.int .u64 (x : Int)) ∧ u.cell? ⟨wo.heap.size, 1, none⟩ = some (.int .u64 (y : Int))) → Calls Try.prog f args u fun e u' => e = .returned v ∧ (Below w.heap.size w u' ∧ w.heap.size ≤ u'.heap.size ∧ Below (w2.heap.size + 1) (w2.alloc (.cells #[.int .u64 (a : Int), .int .u64 (b : Int), .int .u64 (c : Int), .int .u64 (d : Int), .int .u64 (a : Int), .int .u64 (a : Int)] 25)) u' ∧ w2.heap.size + 1 ≤ u'.heap.size ∧ u'.cell? ⟨wo.heap.size, 0, none⟩ = some (.int .u64 (x : Int)) ∧ u'.cell? ⟨wo.heap.size, 1, none⟩ = some (.int .u64 (y : Int))) := fun _ _ _ h u hu => carry2 h u hu
      go_region_held3 (fun w' => Below w.heap.size w w' ∧ w.heap.size ≤ w'.heap.size ∧ Below (w2.heap.size + 1) (w2.alloc (.cells #[.int .u64 (a : Int), .int .u64 (b : Int), .int .u64 (c : Int), .int .u64 (d : Int), .int .u64 (a : Int), .int .u64 (a : Int)] 25)) w' ∧ w2.heap.size + 1 ≤ w'.heap.size ∧ w'.cell? ⟨wo.heap.size, 0, none⟩ = some (.int .u64 (x : Int)) ∧ w'.cell? ⟨wo.heap.size, 1, none⟩ = some (.int .u64 (y : Int))) (first | (exact ⟨hS0.drew, by simpa using hS4, hS1.drew, by simpa using hS5, by simpa using hS2, by simpa using hS3⟩) | assumption | go_keep)
        (first | (go_at_call 15; (with_reducible refine (hK _ _ _ (fcompare_any x y x1 y1) _ ?_).mono ?_); (first | assumption | simp [*]); rintro e w' ⟨rfl, hS'⟩) | (go_at_call 16; (with_reducible refine (hK _ _ _ (rcompare_any x y x1 y1) _ ?_).mono ?_); (first | assumption | simp [*]); rintro e w' ⟨rfl, hS'⟩) | (go_at_call 17; (with_reducible refine (hK _ _ _ (ftoint_any x x1) _ ?_).mono ?_); (first | assumption | simp [*]); rintro e w' ⟨rfl, hS'⟩) | (go_at_call 18; (with_reducible refine (hK _ _ _ (rtoint_any x x1) _ ?_).mono ?_); (first | assumption | simp [*]); rintro e w' ⟨rfl, hS'⟩) | (go_at_call 19; (with_reducible refine (hK _ _ _ (fisnan_any x x1) _ ?_).mono ?_); (first | assumption | simp [*]); rintro e w' ⟨rfl, hS'⟩) | (go_at_call 20; (with_reducible refine (hK _ _ _ (risnan_b x x1) _ ?_).mono ?_); (first | assumption | simp [*]); rintro e w' ⟨rfl, hS'⟩) | (go_at_call 21; (with_reducible refine (hK _ _ _ (fquiet_any x x1) _ ?_).mono ?_); (first | assumption | simp [*]); rintro e w' ⟨rfl, hS'⟩) | (go_at_call 22; (with_reducible refine (hK _ _ _ (rquiet_b x x1) _ ?_).mono ?_); (first | assumption | simp [*]); rintro e w' ⟨rfl, hS'⟩))
      obtain ⟨e0, _, e1, _, _, _⟩ := hS'
      clear hK hS0 hS1 hS2 hS3 hS4 hS5
      go_wp2_with fail
      go_roundw
      case rel => exact ⟨i + 1, by omega, by go_num, e1⟩
      case measure => simp [intOf]; omega
    · obtain rfl : i = 3 := by omega
      have f2 := there_back v v0 v1
      have f3 := from_lt v v0 v1
      have f1 := ffrom_any v v0 v1
      have f4 := rfrom_any v
      have f5 := ftoint_any (fromN v) f3
      rw [f2] at f5
      clear f2
      generalize fromN v = g at *
      go_wp2_with fail
      refine (f1 _).mono ?_
      rintro e w3 ⟨rfl, hb3⟩
      have B3 := hB.trans (hb3.mono hB.size)
      go_wp2_with fail
      refine (f4 _).mono ?_
      rintro e w' ⟨rfl, rfl⟩
      go_wp2_with fail
      refine (f1 _).mono ?_
      rintro e w4 ⟨rfl, hb4⟩
      have B4 := B3.trans (hb4.mono B3.size)
      go_wp2_with fail
      refine (f5 _).mono ?_
      rintro e w5 ⟨rfl, hb5⟩
      have B5 := B4.trans (hb5.mono B4.size)
      go_wp2_with fail
      go_ret
      exact ⟨by simp, B5⟩
theorem fints_walk' (a b v : Int) (w : World) (a0 : 0 ≤ a) (a1 : a < 18446744073709551616) (b0 : 0 ≤ b) (b1 : b < 18446744073709551616) (v0 : 0 ≤ v) (v1 : v < 4294967296) :
    Calls Try.prog 4 #[.int .u64 a, .int .u64 b, .int .u32 v] w fun e w' => e = .returned (.bool true) ∧ Below w.heap.size w w' := by
  obtain ⟨a, rfl⟩ := Int.eq_ofNat_of_zero_le a0
  obtain ⟨b, rfl⟩ := Int.eq_ofNat_of_zero_le b0
  exact fints_walk a b v w (by omega) (by omega) v0 v1

theorem floatInts_own : ownKnob Try.prog.godebug = none := by kernel_rfl
set_option maxRecDepth 100000 in
theorem floatInts_lifted (os : Os) (started : os.Started) (H : Type) (enc : TypeId × Value → H) :
    ReturnsInHanded {} Try.checked os 4 .any (Rows.floatIntsSpec.pre6 enc Try.prog Try.f4 Rows.floatIntsRow.domain false) (Rows.floatIntsSpec.post enc Try.prog Try.f4 false true false false) := by
  refine returnsInHanded_of_change (C := Try.checked) floatInts_own started (by kernel_rfl) Try.func4
    (ChangeSpec.witness6 (enc := enc) (C := Try.checked) false ⟨#[], #[.int .u64 0, .int .u64 0, .int .u32 0], []⟩ 8 (by kernel_rfl) (by kernel_rfl) (by kernel_rfl) (by kernel_rfl)) ?_
  intro W base args ds gs before hval0 hW hcnd _
  have hval : ∀ (j : Nat) t v, Try.f4.params[j]? = some t → args[j]? = some v → Value.okWide Try.prog W .any base t v := hval0
  have hW' := hW
  obtain ⟨p, q, hA0, hV, rfl, hfz, hnd⟩ := hW
  have hA : DataW.TrodAll enc Try.prog W 0 (fun _ => true) true Try.f4.params.toList args.toList ds p := hA0
  rw [Try.params4] at hA hval
  obtain ⟨v0, vs0, d0, ds0, p0, q0, hargs, rfl, rfl, h0, r0⟩ := trodAll_cons hA
  obtain ⟨v1, vs1, d1, ds1, p1, q1, rfl, rfl, rfl, h1, r1⟩ := trodAll_cons r0
  obtain ⟨v2, vs2, d2, ds2, p2, q2, rfl, rfl, rfl, h2, r2⟩ := trodAll_cons r1
  obtain ⟨rfl, rfl, rfl⟩ := trodAll_nil r2
  obtain rfl : args = #[v0, v1, v2] := by cases args; simp_all
  obtain ⟨rfl, rfl⟩ := trodVars_none hV
  obtain ⟨a0, rfl, rfl, rfl, w0⟩ := open_int Try.underlying22 (hval 0 22 v0 rfl rfl) h0
  obtain ⟨a1, rfl, rfl, rfl, w1⟩ := open_int Try.underlying22 (hval 1 22 v1 rfl rfl) h1
  obtain ⟨a2, rfl, rfl, rfl, w2⟩ := open_int Try.underlying31 (hval 2 31 v2 rfl rfl) h2
  clear hA0 hval0
  simp only [List.append_nil] at hW'
  have b0 : 0 ≤ a0 ∧ a0 < 18446744073709551616 := by
    have h := w0
    simp only [Lit.wf, Bool.and_eq_true, decide_eq_true_eq] at h
    have e1 : IntKind.u64.min = 0 := by decide
    have e2 : IntKind.u64.max = 18446744073709551615 := by decide
    omega
  have b1 : 0 ≤ a1 ∧ a1 < 18446744073709551616 := by
    have h := w1
    simp only [Lit.wf, Bool.and_eq_true, decide_eq_true_eq] at h
    have e1 : IntKind.u64.min = 0 := by decide
    have e2 : IntKind.u64.max = 18446744073709551615 := by decide
    omega
  have b2 : 0 ≤ a2 ∧ a2 < 4294967296 := by
    have h := w2
    simp only [Lit.wf, Bool.and_eq_true, decide_eq_true_eq] at h
    have e1 : IntKind.u32.min = 0 := by decide
    have e2 : IntKind.u32.max = 4294967295 := by decide
    omega
  refine (fints_walk' a0 a1 a2 W b0.1 b0.2 b1.1 b1.2 b2.1 b2.2).mono fun e W' ⟨he, hg⟩ => ?_
  subst he
  exact ⟨_, rfl, post_plain hW' hg (fun sp => (trodAll_cons_mk (shut_int Try.underlying22 w0) (trodAll_cons_mk (shut_int Try.underlying22 w1) (trodAll_cons_mk (shut_int Try.underlying31 w2) trodAll_mk0)))) (fun _ => rfl)
    (fun _ _ _ => (trodAll_cons_mk (shut_bool Try.underlying4 _) trodAll_mk0)) (ok_one (by kernel_rfl) rfl (okWide_bool_mk Try.underlying4 _))⟩

theorem floatInts_holds : Rows.FloatIntsSaid :=
  OpenClaim.holds_of_wide 4 Try.f4 rfl rfl rfl rfl rfl rfl rfl ⟨rfl, rfl, rfl, rfl, rfl⟩ rfl rfl rfl rfl rfl (by kernel_rfl) Try.func4 (by kernel_rfl)
    (of_decide_eq_true (by kernel_rfl)) (by unfold Func.isWrapper; first | (rw [if_pos (by decide +kernel)]; kernel_rfl) | (rw [if_neg (by decide +kernel)]; exact ⟨rfl, rfl⟩))
    (fun os started H enc _ => floatInts_lifted os started H enc)
#print axioms floatInts_holds
end Go.Proofs.Ytjapmkaapciegaa
