/- What each operation makes of any two doubles, of edges, NaNs too, is the document's. -/
import Derived.Test.YtjapmkaapciegaaSeat4
import Derived.Deep.RegionHeld3
import Derived.Test.YtjapmkaapciegaaShut
namespace Go.Proofs.Ytjapmkaapciegaa
open Go.ChangeShapes Go.WideShapes Go.ChangeAt Go.RowKit

/-- The operations and the pairs that the statement goes through. -/
def tellOp (op x : Int) (k : Nat) : Int := match k with | 0 => op | _ => x
def tellX (a c d : Nat) (i : Nat) : Nat := match i with | 0 => a | 1 => c | 2 => d | _ => a
def tellY (a b d f : Nat) (i : Nat) : Nat := match i with | 0 => b | 1 => d | 2 => f | _ => a
theorem tellX_lt (a c d i : Nat) (h0 : a < 18446744073709551616) (h1 : c < 18446744073709551616) (h2 : d < 18446744073709551616) : tellX a c d i < 18446744073709551616 := by unfold tellX; split <;> assumption
theorem tellY_lt (a b d f i : Nat) (h0 : a < 18446744073709551616) (h1 : b < 18446744073709551616) (h2 : d < 18446744073709551616) (h3 : f < 18446744073709551616) : tellY a b d f i < 18446744073709551616 := by unfold tellY; split <;> assumption
/-- A call that makes memory alone leaves two worlds below, and two cells. -/
theorem carry3 {f : FuncId} {args : Array Value} {v x y : Value} {B1 B2 : Nat} {W1 W2 : World} {p q : Addr} (h : ∀ w, Calls Try.prog f args w fun e w' => e = .returned v ∧ Below w.heap.size w w') (w : World)
    (hw : Below B1 W1 w ∧ B1 ≤ w.heap.size ∧ Below B2 W2 w ∧ B2 ≤ w.heap.size ∧ w.cell? p = some x ∧ w.cell? q = some y) :
    Calls Try.prog f args w fun e w' => e = .returned v ∧ (Below B1 W1 w' ∧ B1 ≤ w'.heap.size ∧ Below B2 W2 w' ∧ B2 ≤ w'.heap.size ∧ w'.cell? p = some x ∧ w'.cell? q = some y) := by
  obtain ⟨h1, k1, h2, k2, hp, hq⟩ := hw
  refine (h w).mono fun e w' ⟨he, hb⟩ => ⟨he, h1.trans (hb.mono k1), Nat.le_trans k1 hb.size, h2.trans (hb.mono k2), Nat.le_trans k2 hb.size, cell_call hb hp, cell_call hb hq⟩
attribute [local go_sem] isSome_setCell
set_option maxRecDepth 100000 in
set_option maxHeartbeats 8000000 in
theorem ftells_walk (op k : Int) (a b : Nat) (w : World) (k0 : 0 ≤ k) (k1 : k < 256) (a1 : a < 18446744073709551616) (b1 : b < 18446744073709551616) :
    Calls Try.prog 3 #[.int .i64 op, .int .u8 k, .int .u64 (a : Int), .int .u64 (b : Int)] w fun e w' => e = .returned (.bool true) ∧ Below w.heap.size w w' := by
  obtain ⟨j, hj⟩ : ∃ j : Nat, k % 11 = j := ⟨(k % 11).toNat, by omega⟩
  have hj11 : j < 11 := by omega
  have ha8 : a / 8 < 18446744073709551616 := by omega
  have hd8 := double_any (a / 8) ha8
  have e8 : ((a / 8 : Nat) : Int) = (a : Int) / 8 := by omega
  rw [e8] at hd8
  clear e8
  go_enter Try.func3, Try.ntmps3
  go_wp2_with (go_at_call 11; refine (known4_any _).mono ?_; rintro e w0 ⟨rfl, B0⟩)
  clear hj
  go_loopw [22] (fun x wr => ∃ i : Nat, i ≤ 2 ∧ x = .int .i64 i ∧ Below (w0.heap.size + 1) (w0.alloc (.cells #[.int .i64 op, .int .i64 (51 + (j : Int))] 3)) wr) (fun x _ => 2 - (intOf x).toNat)
  case atStart => exact ⟨0, by omega, rfl, Below.refl _ _⟩
  case round =>
    obtain ⟨i, hi, rfl, hr⟩ := hrel
    have hB : Below w.heap.size w wr := (B0.alloc (by have := B0.size; omega) _).trans (hr.mono (by have := B0.size; omega))
    by_cases hlt : i < 2
    · have hcell : wr.cell? ⟨w0.heap.size, i, none⟩ = some (.int .i64 (tellOp op (51 + (j : Int)) i)) := by
        rw [hr.cell (by simp)]
        obtain rfl | rfl : i = 0 ∨ i = 1 := by omega
        all_goals simp [tellOp]
      generalize tellOp op (51 + (j : Int)) i = x at hcell
      obtain ⟨wo, rfl⟩ : ∃ wo : World, wo = wr := ⟨_, rfl⟩
      have hd : decide ((i : Int) < 2) = true := by simp; omega
      have hs1 : w0.heap.size + 1 ≤ wo.heap.size := by simpa using hr.size
      go_wp2_with fail
      clear hcell
      refine (double_any a a1 _).mono ?_
      rintro e w1 ⟨c, c1, rfl, hb1⟩
      go_wp2_with fail
      refine (double_any b b1 _).mono ?_
      rintro e w2 ⟨d, d1, rfl, hb2⟩
      go_wp2_with fail
      refine (double_any b b1 _).mono ?_
      rintro e w3 ⟨d', d1', rfl, hb3⟩
      go_wp2_with fail
      refine (hd8 _).mono ?_
      rintro e w4 ⟨f, f1, rfl, hb4⟩
      have hB4 := (((hB.trans (hb1.mono hB.size)).trans (hb2.mono (Nat.le_trans hB.size hb1.size))).trans (hb3.mono (Nat.le_trans (Nat.le_trans hB.size hb1.size) hb2.size))).trans (hb4.mono (Nat.le_trans (Nat.le_trans (Nat.le_trans hB.size hb1.size) hb2.size) hb3.size))
      have hO4 := (((hr.trans (hb1.mono hs1)).trans (hb2.mono (Nat.le_trans hs1 hb1.size))).trans (hb3.mono (Nat.le_trans (Nat.le_trans hs1 hb1.size) hb2.size))).trans (hb4.mono (Nat.le_trans (Nat.le_trans (Nat.le_trans hs1 hb1.size) hb2.size) hb3.size))
      have hs4 : w0.heap.size + 1 ≤ w4.heap.size := by simpa using hO4.size
      clear hb1 hb2 hb3 hb4 hr hB hs1
      go_wp2_with fail
      go_loopw [45] (fun x wq => ∃ q : Nat, q ≤ 4 ∧ x = .int .i64 q ∧ Below (w4.heap.size + 1) (w4.alloc (.cells #[.int .u64 (a : Int), .int .u64 (b : Int), .int .u64 (c : Int), .int .u64 (d : Int), .int .u64 (d' : Int), .int .u64 (f : Int), .int .u64 (a : Int), .int .u64 (a : Int)] 25)) wq) (fun x _ => 4 - (intOf x).toNat)
      case atStart => exact ⟨0, by omega, rfl, Below.refl _ _⟩
      case round =>
        obtain ⟨q, hq, rfl, hr2⟩ := hrel
        have hB2 : Below w.heap.size w wr := (hB4.alloc hB4.size _).trans (hr2.mono (by have := hB4.size; omega))
        have hO2 : Below (w0.heap.size + 1) (w0.alloc (.cells #[.int .i64 op, .int .i64 (51 + (j : Int))] 3)) wr := (hO4.alloc hs4 _).trans (hr2.mono (by omega))
        by_cases hlq : q < 4
        · have hc0 : wr.cell? ⟨w4.heap.size, q * 2, none⟩ = some (.int .u64 (tellX a c d' q : Nat)) := by
            rw [hr2.cell (by simp)]
            obtain rfl | rfl | rfl | rfl : q = 0 ∨ q = 1 ∨ q = 2 ∨ q = 3 := by omega
            all_goals simp [tellX]
          have hc1 : wr.cell? ⟨w4.heap.size, q * 2 + 1, none⟩ = some (.int .u64 (tellY a b d f q : Nat)) := by
            rw [hr2.cell (by simp)]
            obtain rfl | rfl | rfl | rfl : q = 0 ∨ q = 1 ∨ q = 2 ∨ q = 3 := by omega
            all_goals simp [tellY]
          have x1 := tellX_lt a c d' q a1 c1 d1'
          have y1 := tellY_lt a b d f q a1 b1 d1 f1
          generalize tellX a c d' q = y at *
          generalize tellY a b d f q = z at *
          obtain ⟨wi, hwi⟩ : ∃ wi : World, wi = wr := ⟨_, rfl⟩
          rw [← hwi] at hr2 hB2 hO2 hc0 hc1 ⊢
          clear hwi
          have hd2 : decide ((q : Int) < 4) = true := by simp; omega
          go_wp2_with fail
          have hS0 : Below w.heap.size w (wi.alloc (.cells #[.int .u64 (y : Int), .int .u64 (z : Int)] 25)) := hB2.alloc hB2.size _
          have hS1 := hr2.alloc (by simpa using hr2.size) (.cells #[.int .u64 (y : Int), .int .u64 (z : Int)] 25)
          have hS2 : (wi.alloc (.cells #[.int .u64 (y : Int), .int .u64 (z : Int)] 25)).cell? ⟨wi.heap.size, 0, none⟩ = some (.int .u64 (y : Int)) := by simp
          have hS3 : (wi.alloc (.cells #[.int .u64 (y : Int), .int .u64 (z : Int)] 25)).cell? ⟨wi.heap.size, 1, none⟩ = some (.int .u64 (z : Int)) := by simp
          clear hc0 hc1
          generalize wi.alloc (.cells #[.int .u64 (y : Int), .int .u64 (z : Int)] 25) = W at *
          have hS4 := hS0.size
          have hS5 := hS1.size
          have hK : ∀ (fn : FuncId) (args : Array Value) (v : Value), (∀ w, Calls Try.prog fn args w fun e w' => e = .returned v ∧ Below w.heap.size w w') → ∀ u : World, (Below w.heap.size w u ∧ w.heap.size ≤ u.heap.size ∧ Below (w4.heap.size + 1) (w4.alloc (.cells #[.int .u64 (a : Int), .int .u64 (b : Int), .int .u64 (c : Int), .int .u64 (d : Int), .int .u64 (d' : Int), .int .u64 (f : Int), .int .u64 (a : Int), .int .u64 (a : Int)] 25)) u ∧ w4.heap.size + 1 ≤ u.heap.size ∧ u.cell? ⟨wi.heap.size, 0, none⟩ = some (.int .u64 (y : Int)) ∧ u.cell? ⟨wi.heap.size, 1, none⟩ = some (.int .u64 (z : Int))) → Calls Try.prog fn args u fun e u' => e = .returned v ∧ (Below w.heap.size w u' ∧ w.heap.size ≤ u'.heap.size ∧ Below (w4.heap.size + 1) (w4.alloc (.cells #[.int .u64 (a : Int), .int .u64 (b : Int), .int .u64 (c : Int), .int .u64 (d : Int), .int .u64 (d' : Int), .int .u64 (f : Int), .int .u64 (a : Int), .int .u64 (a : Int)] 25)) u' ∧ w4.heap.size + 1 ≤ u'.heap.size ∧ u'.cell? ⟨wi.heap.size, 0, none⟩ = some (.int .u64 (y : Int)) ∧ u'.cell? ⟨wi.heap.size, 1, none⟩ = some (.int .u64 (z : Int))) := fun _ _ _ h u hu => carry3 h u hu
          go_region_held3 (fun w' => Below w.heap.size w w' ∧ w.heap.size ≤ w'.heap.size ∧ Below (w4.heap.size + 1) (w4.alloc (.cells #[.int .u64 (a : Int), .int .u64 (b : Int), .int .u64 (c : Int), .int .u64 (d : Int), .int .u64 (d' : Int), .int .u64 (f : Int), .int .u64 (a : Int), .int .u64 (a : Int)] 25)) w' ∧ w4.heap.size + 1 ≤ w'.heap.size ∧ w'.cell? ⟨wi.heap.size, 0, none⟩ = some (.int .u64 (y : Int)) ∧ w'.cell? ⟨wi.heap.size, 1, none⟩ = some (.int .u64 (z : Int))) (first | (exact ⟨hS0.drew, by simpa using hS4, hS1.drew, by simpa using hS5, by simpa using hS2, by simpa using hS3⟩) | assumption | go_keep)
            (first | (go_at_call 13; (with_reducible refine (hK _ _ _ (fdo_any x y z x1 y1) _ ?_).mono ?_); (first | assumption | simp [*]); rintro e w' ⟨rfl, hS'⟩) | (go_at_call 14; (with_reducible refine (hK _ _ _ (rfloat_any x y z x1 y1) _ ?_).mono ?_); (first | assumption | simp [*]); rintro e w' ⟨rfl, hS'⟩))
          obtain ⟨e0, _, e1, _, _, _⟩ := hS'
          clear hK hS0 hS1 hS2 hS3 hS4 hS5
          go_wp2_with fail
          go_roundw
          case rel => exact ⟨q + 1, by omega, by go_num, e1⟩
          case measure => simp [intOf]; omega
        · obtain rfl : q = 4 := by omega
          go_wp2_with fail
          go_roundw
          case rel => exact ⟨i + 1, by omega, by go_num, hO2⟩
          case measure => simp [intOf]; omega
    · obtain rfl : i = 2 := by omega
      go_wp2
      go_ret
      exact ⟨rfl, hB⟩
theorem ftells_walk' (op k a b : Int) (w : World) (k0 : 0 ≤ k) (k1 : k < 256) (a0 : 0 ≤ a) (a1 : a < 18446744073709551616) (b0 : 0 ≤ b) (b1 : b < 18446744073709551616) :
    Calls Try.prog 3 #[.int .i64 op, .int .u8 k, .int .u64 a, .int .u64 b] w fun e w' => e = .returned (.bool true) ∧ Below w.heap.size w w' := by
  obtain ⟨a, rfl⟩ := Int.eq_ofNat_of_zero_le a0
  obtain ⟨b, rfl⟩ := Int.eq_ofNat_of_zero_le b0
  exact ftells_walk op k a b w k0 k1 (by omega) (by omega)

theorem floatTells_own : ownKnob Try.prog.godebug = none := by kernel_rfl
set_option maxRecDepth 100000 in
theorem floatTells_lifted (os : Os) (started : os.Started) (H : Type) (enc : TypeId × Value → H) :
    ReturnsInHanded {} Try.checked os 3 .any (Rows.floatTellsSpec.pre6 enc Try.prog Try.f3 Rows.floatTellsRow.domain false) (Rows.floatTellsSpec.post enc Try.prog Try.f3 false true false false) := by
  refine returnsInHanded_of_change (C := Try.checked) floatTells_own started (by kernel_rfl) Try.func3
    (ChangeSpec.witness6 (enc := enc) (C := Try.checked) false ⟨#[], #[.int .i64 0, .int .u8 0, .int .u64 0, .int .u64 0], []⟩ 8 (by kernel_rfl) (by kernel_rfl) (by kernel_rfl) (by kernel_rfl)) ?_
  intro W base args ds gs before hval0 hW hcnd _
  have hval : ∀ (j : Nat) t v, Try.f3.params[j]? = some t → args[j]? = some v → Value.okWide Try.prog W .any base t v := hval0
  have hW' := hW
  obtain ⟨p, q, hA0, hV, rfl, hfz, hnd⟩ := hW
  have hA : DataW.TrodAll enc Try.prog W 0 (fun _ => true) true Try.f3.params.toList args.toList ds p := hA0
  rw [Try.params3] at hA hval
  obtain ⟨v0, vs0, d0, ds0, p0, q0, hargs, rfl, rfl, h0, r0⟩ := trodAll_cons hA
  obtain ⟨v1, vs1, d1, ds1, p1, q1, rfl, rfl, rfl, h1, r1⟩ := trodAll_cons r0
  obtain ⟨v2, vs2, d2, ds2, p2, q2, rfl, rfl, rfl, h2, r2⟩ := trodAll_cons r1
  obtain ⟨v3, vs3, d3, ds3, p3, q3, rfl, rfl, rfl, h3, r3⟩ := trodAll_cons r2
  obtain ⟨rfl, rfl, rfl⟩ := trodAll_nil r3
  obtain rfl : args = #[v0, v1, v2, v3] := by cases args; simp_all
  obtain ⟨rfl, rfl⟩ := trodVars_none hV
  obtain ⟨a0, rfl, rfl, rfl, w0⟩ := open_int Try.underlying3 (hval 0 3 v0 rfl rfl) h0
  obtain ⟨a1, rfl, rfl, rfl, w1⟩ := open_int Try.underlying5 (hval 1 5 v1 rfl rfl) h1
  obtain ⟨a2, rfl, rfl, rfl, w2⟩ := open_int Try.underlying22 (hval 2 22 v2 rfl rfl) h2
  obtain ⟨a3, rfl, rfl, rfl, w3⟩ := open_int Try.underlying22 (hval 3 22 v3 rfl rfl) h3
  clear hA0 hval0
  simp only [List.append_nil] at hW'
  have b1 : 0 ≤ a1 ∧ a1 < 256 := by
    have h := w1
    simp only [Lit.wf, Bool.and_eq_true, decide_eq_true_eq] at h
    have e1 : IntKind.u8.min = 0 := by decide
    have e2 : IntKind.u8.max = 255 := by decide
    omega
  have b2 : 0 ≤ a2 ∧ a2 < 18446744073709551616 := by
    have h := w2
    simp only [Lit.wf, Bool.and_eq_true, decide_eq_true_eq] at h
    have e1 : IntKind.u64.min = 0 := by decide
    have e2 : IntKind.u64.max = 18446744073709551615 := by decide
    omega
  have b3 : 0 ≤ a3 ∧ a3 < 18446744073709551616 := by
    have h := w3
    simp only [Lit.wf, Bool.and_eq_true, decide_eq_true_eq] at h
    have e1 : IntKind.u64.min = 0 := by decide
    have e2 : IntKind.u64.max = 18446744073709551615 := by decide
    omega
  refine (ftells_walk' a0 a1 a2 a3 W b1.1 b1.2 b2.1 b2.2 b3.1 b3.2).mono fun e W' ⟨he, hg⟩ => ?_
  subst he
  exact ⟨_, rfl, post_plain hW' hg (fun sp => (trodAll_cons_mk (shut_int Try.underlying3 w0) (trodAll_cons_mk (shut_int Try.underlying5 w1) (trodAll_cons_mk (shut_int Try.underlying22 w2) (trodAll_cons_mk (shut_int Try.underlying22 w3) trodAll_mk0))))) (fun _ => rfl)
    (fun _ _ _ => (trodAll_cons_mk (shut_bool Try.underlying4 _) trodAll_mk0)) (ok_one (by kernel_rfl) rfl (okWide_bool_mk Try.underlying4 _))⟩

theorem floatTells_holds : Rows.FloatTellsSaid :=
  OpenClaim.holds_of_wide 3 Try.f3 rfl rfl rfl rfl rfl rfl rfl ⟨rfl, rfl, rfl, rfl, rfl⟩ rfl rfl rfl rfl rfl (by kernel_rfl) Try.func3 (by kernel_rfl)
    (of_decide_eq_true (by kernel_rfl)) (by unfold Func.isWrapper; first | (rw [if_pos (by decide +kernel)]; kernel_rfl) | (rw [if_neg (by decide +kernel)]; exact ⟨rfl, rfl⟩))
    (fun os started H enc _ => floatTells_lifted os started H enc)
#print axioms floatTells_holds
end Go.Proofs.Ytjapmkaapciegaa
