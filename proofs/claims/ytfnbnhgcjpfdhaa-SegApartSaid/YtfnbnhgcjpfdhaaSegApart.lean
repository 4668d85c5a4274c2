/- Of segments that are apart no place lies in both. -/
import Derived.Test.YtfnbnhgcjpfdhaaKnown7
import Derived.Test.YtfnbnhgcjpfdhaaShutSeg
import Derived.Test.YtfnbnhgcjpfdhaaCells
namespace Go.Proofs.Ytfnbnhgcjpfdhaa
open Go.ChangeShapes Go.WideShapes Go.ChangeAt Go.RowKit

theorem ap_in (b z c y p : Int) (h : apB b z c y = true) (hp : inB b z p = true) : inB c y p = false := by
  unfold apB at h
  unfold inB at hp ⊢
  rw [Bool.eq_false_iff]
  intro h2
  simp only [Bool.and_eq_true, Bool.or_eq_true, decide_eq_true_eq, beq_iff_eq] at h hp h2
  omega
theorem ap_sym (b z c y : Int) (h : apB b z c y = true) : apB c y b z = true := by
  unfold apB at h ⊢
  simp only [Bool.and_eq_true, Bool.or_eq_true, decide_eq_true_eq, beq_iff_eq] at h ⊢
  obtain ⟨⟨h1, h2⟩, h3⟩ := h
  exact ⟨⟨h2, h1⟩, by omega⟩
def pick5 (a b c d e : Int) (i : Nat) : Int := match i with | 0 => a | 1 => b | 2 => c | 3 => d | _ => e
theorem pick5_lo {a b c d e : Int} (i : Nat) (h0 : 0 ≤ a) (h1 : 0 ≤ b) (h2 : 0 ≤ c) (h3 : 0 ≤ d) (h4 : 0 ≤ e) : 0 ≤ pick5 a b c d e i := by unfold pick5; split <;> assumption
theorem pick5_hi {a b c d e : Int} (i : Nat) (h0 : a < 4294967296) (h1 : b < 4294967296) (h2 : c < 4294967296) (h3 : d < 4294967296) (h4 : e < 4294967296) : pick5 a b c d e i < 4294967296 := by unfold pick5; split <;> assumption
set_option maxHeartbeats 2000000 in
theorem segapart_walk (b z : Int) (r q x : Bool) (c y : Int) (r' q' x' : Bool) (a : Int) (w : World) (b0 : 0 ≤ b) (b1 : b < 4294967296) (z0 : 0 ≤ z) (z1 : z < 4294967296) (c0 : 0 ≤ c) (c1 : c < 4294967296) (y0 : 0 ≤ y) (y1 : y < 4294967296) (a0 : 0 ≤ a) (a1 : a < 4294967296) :
    Calls Try.prog 5 #[.agg #[.int .u32 b, .int .u32 z, .bool r, .bool q, .bool x], .agg #[.int .u32 c, .int .u32 y, .bool r', .bool q', .bool x'], .int .u32 a] w fun e w' => e = .returned (.bool true) ∧ Below w.heap.size w w' := by
  go_enter Try.func5, Try.ntmps5
  go_wp2_with fail
  refine (known7_any _).mono ?_
  rintro e w0 ⟨rfl, B0⟩
  have q0 : w0.cell? ⟨w.heap.size, 0, none⟩ = some (.int .u32 b) := by rw [B0.cell (by simp; try omega)]; simp
  have q1 : w0.cell? ⟨w.heap.size, 1, none⟩ = some (.int .u32 z) := by rw [B0.cell (by simp; try omega)]; simp
  have q2 : w0.cell? ⟨w.heap.size, 2, none⟩ = some (.bool r) := by rw [B0.cell (by simp; try omega)]; simp
  have q3 : w0.cell? ⟨w.heap.size, 3, none⟩ = some (.bool q) := by rw [B0.cell (by simp; try omega)]; simp
  have q4 : w0.cell? ⟨w.heap.size, 4, none⟩ = some (.bool x) := by rw [B0.cell (by simp; try omega)]; simp
  have q5 : w0.cell? ⟨w.heap.size + 1, 0, none⟩ = some (.int .u32 c) := by rw [B0.cell (by simp; try omega)]; simp
  have q6 : w0.cell? ⟨w.heap.size + 1, 1, none⟩ = some (.int .u32 y) := by rw [B0.cell (by simp; try omega)]; simp
  have q7 : w0.cell? ⟨w.heap.size + 1, 2, none⟩ = some (.bool r') := by rw [B0.cell (by simp; try omega)]; simp
  have q8 : w0.cell? ⟨w.heap.size + 1, 3, none⟩ = some (.bool q') := by rw [B0.cell (by simp; try omega)]; simp
  have q9 : w0.cell? ⟨w.heap.size + 1, 4, none⟩ = some (.bool x') := by rw [B0.cell (by simp; try omega)]; simp
  have B1 := (below_last (below_last (Below.refl w.heap.size w) _) _).trans (B0.mono (by simp; omega))
  clear B0
  go_wp2_with fail
  refine (sapart_any b z c y _ _ _ _ _ _ b0 b1 z0 z1 c0 c1 y0 y1 _).mono ?_
  rintro e u ⟨rfl, B2⟩
  have t0 := cell_call B2 q0
  have t1 := cell_call B2 q1
  have t2 := cell_call B2 q2
  have t3 := cell_call B2 q3
  have t4 := cell_call B2 q4
  have t5 := cell_call B2 q5
  have t6 := cell_call B2 q6
  have t7 := cell_call B2 q7
  have t8 := cell_call B2 q8
  have t9 := cell_call B2 q9
  have B3 := B1.trans (B2.mono B1.size)
  clear q0 q1 q2 q3 q4 q5 q6 q7 q8 q9 B1 B2
  cases ha : apB b z c y
  · clear t0 t1 t2 t3 t4 t5 t6 t7 t8 t9
    go_wp2
    go_ret
    exact ⟨rfl, B3⟩
  have hin := fun p => ap_in b z c y p ha
  have hsy := Lib.hid (ap_sym b z c y ha)
  clear ha
  go_wp2_with fail
  obtain ⟨d, hd⟩ : ∃ d, d = (b + z - 1) % 4294967296 := ⟨_, rfl⟩
  obtain ⟨g, hg⟩ : ∃ g, g = (c + y - 1) % 4294967296 := ⟨_, rfl⟩
  rw [show ((b + z) % 4294967296 - 1) % 4294967296 = d by omega, show ((c + y) % 4294967296 - 1) % 4294967296 = g by omega, ← hd, ← hg]
  have d0 : 0 ≤ d := by omega
  have d1 : d < 4294967296 := by omega
  have g0 : 0 ≤ g := by omega
  have g1 : g < 4294967296 := by omega
  clear hd hg
  have hu0 := cell_lt t0
  have hu5 := cell_lt t5
  go_loopw [34] (fun v wr => ∃ i : Nat, i ≤ 5 ∧ v = .int .i64 i ∧ Below (u.heap.size + 1) (u.alloc (.cells #[.int .u32 a, .int .u32 b, .int .u32 c, .int .u32 d, .int .u32 g] 22)) wr) (fun v _ => 5 - (intOf v).toNat)
  case atStart => exact ⟨0, by omega, rfl, Below.refl _ _⟩
  case round =>
    obtain ⟨i, hi, rfl, hr⟩ := hrel
    have hB : Below w.heap.size w wr := (B3.alloc B3.size _).trans (hr.mono (by have := B3.size; omega))
    have r0 : wr.cell? ⟨w.heap.size, 0, none⟩ = some (.int .u32 b) := by rw [hr.cell (by simp at hu0 hu5 ⊢; omega), World.cell?_alloc_lt _ _ _ (by simpa using hu0)]; exact t0
    have r1 : wr.cell? ⟨w.heap.size, 1, none⟩ = some (.int .u32 z) := by rw [hr.cell (by simp at hu0 hu5 ⊢; omega), World.cell?_alloc_lt _ _ _ (by simpa using hu0)]; exact t1
    have r2 : wr.cell? ⟨w.heap.size, 2, none⟩ = some (.bool r) := by rw [hr.cell (by simp at hu0 hu5 ⊢; omega), World.cell?_alloc_lt _ _ _ (by simpa using hu0)]; exact t2
    have r3 : wr.cell? ⟨w.heap.size, 3, none⟩ = some (.bool q) := by rw [hr.cell (by simp at hu0 hu5 ⊢; omega), World.cell?_alloc_lt _ _ _ (by simpa using hu0)]; exact t3
    have r4 : wr.cell? ⟨w.heap.size, 4, none⟩ = some (.bool x) := by rw [hr.cell (by simp at hu0 hu5 ⊢; omega), World.cell?_alloc_lt _ _ _ (by simpa using hu0)]; exact t4
    have r5 : wr.cell? ⟨w.heap.size + 1, 0, none⟩ = some (.int .u32 c) := by rw [hr.cell (by simp at hu0 hu5 ⊢; omega), World.cell?_alloc_lt _ _ _ (by simpa using hu5)]; exact t5
    have r6 : wr.cell? ⟨w.heap.size + 1, 1, none⟩ = some (.int .u32 y) := by rw [hr.cell (by simp at hu0 hu5 ⊢; omega), World.cell?_alloc_lt _ _ _ (by simpa using hu5)]; exact t6
    have r7 : wr.cell? ⟨w.heap.size + 1, 2, none⟩ = some (.bool r') := by rw [hr.cell (by simp at hu0 hu5 ⊢; omega), World.cell?_alloc_lt _ _ _ (by simpa using hu5)]; exact t7
    have r8 : wr.cell? ⟨w.heap.size + 1, 3, none⟩ = some (.bool q') := by rw [hr.cell (by simp at hu0 hu5 ⊢; omega), World.cell?_alloc_lt _ _ _ (by simpa using hu5)]; exact t8
    have r9 : wr.cell? ⟨w.heap.size + 1, 4, none⟩ = some (.bool x') := by rw [hr.cell (by simp at hu0 hu5 ⊢; omega), World.cell?_alloc_lt _ _ _ (by simpa using hu5)]; exact t9
    clear t0 t1 t2 t3 t4 t5 t6 t7 t8 t9
    by_cases hlt : i < 5
    · have hcell : wr.cell? ⟨u.heap.size, i, none⟩ = some (.int .u32 (pick5 a b c d g i)) := by
        rw [hr.cell (by simp)]
        obtain rfl | rfl | rfl | rfl | rfl : i = 0 ∨ i = 1 ∨ i = 2 ∨ i = 3 ∨ i = 4 := by omega
        all_goals simp [pick5]
      have l0 := pick5_lo i a0 b0 c0 d0 g0
      have l1 := pick5_hi i a1 b1 c1 d1 g1
      generalize pick5 a b c d g i = p at hcell l0 l1
      obtain ⟨wo, rfl⟩ : ∃ wo : World, wo = wr := ⟨_, rfl⟩
      have hd : decide ((i : Int) < 5) = true := by simp; omega
      have hs1 : u.heap.size + 1 ≤ wo.heap.size := by simpa using hr.size
      go_wp2_with fail
      refine (swithin_any b z p _ _ _ b0 b1 z0 z1 l0 l1 _).mono ?_
      rintro e w2 ⟨rfl, hb2⟩
      have v0 := cell_call hb2 r0
      have v1 := cell_call hb2 r1
      have v2 := cell_call hb2 r2
      have v3 := cell_call hb2 r3
      have v4 := cell_call hb2 r4
      have v5 := cell_call hb2 r5
      have v6 := cell_call hb2 r6
      have v7 := cell_call hb2 r7
      have v8 := cell_call hb2 r8
      have v9 := cell_call hb2 r9
      clear r0 r1 r2 r3 r4 r5 r6 r7 r8 r9 hcell
      have hR := hr.trans (hb2.mono hs1)
      cases hp : inB b z p
      · clear hin
        go_wp2_with fail
        go_roundw
        case rel => exact ⟨i + 1, by omega, by go_num, hR⟩
        case measure => simp [intOf]; omega
      · have hq := hin p hp
        clear hin
        go_wp2_with fail
        refine (swithin_any c y p _ _ _ c0 c1 y0 y1 l0 l1 _).mono ?_
        rintro e w3 ⟨rfl, hb3⟩
        go_wp2_with fail
        go_roundw
        case rel => exact ⟨i + 1, by omega, by go_num, hR.trans (hb3.mono (Nat.le_trans hs1 hb2.size))⟩
        case measure => simp [intOf]; omega
    · obtain rfl : i = 5 := by omega
      clear hin
      go_wp2_with fail
      refine (sapart_any c y b z _ _ _ _ _ _ c0 c1 y0 y1 b0 b1 z0 z1 _).mono ?_
      rintro e w2 ⟨rfl, hb2⟩
      rw [hsy.out]
      go_wp2_with fail
      go_ret
      exact ⟨rfl, hB.trans (hb2.mono hB.size)⟩

theorem segApart_own : ownKnob Try.prog.godebug = none := by kernel_rfl
set_option maxRecDepth 100000 in
theorem segApart_lifted (os : Os) (started : os.Started) (H : Type) (enc : TypeId × Value → H) :
    ReturnsInHanded {} Try.checked os 5 .any (Rows.segApartSpec.pre6 enc Try.prog Try.f5 Rows.segApartRow.domain false) (Rows.segApartSpec.post enc Try.prog Try.f5 false true false false) := by
  refine returnsInHanded_of_change (C := Try.checked) segApart_own started (by kernel_rfl) Try.func5
    (ChangeSpec.witness6 (enc := enc) (C := Try.checked) false ⟨#[], #[.agg #[.int .u32 0, .int .u32 0, .bool false, .bool false, .bool false], .agg #[.int .u32 0, .int .u32 0, .bool false, .bool false, .bool false], .int .u32 0], []⟩ 8 (by kernel_rfl) (by kernel_rfl) (by kernel_rfl) (by kernel_rfl)) ?_
  intro W base args ds gs before hval0 hW hcnd _
  have hval : ∀ (j : Nat) t v, Try.f5.params[j]? = some t → args[j]? = some v → Value.okWide Try.prog W .any base t v := hval0
  have hW' := hW
  obtain ⟨p, q, hA0, hV, rfl, hfz, hnd⟩ := hW
  have hA : DataW.TrodAll enc Try.prog W 0 (fun _ => true) true Try.f5.params.toList args.toList ds p := hA0
  rw [Try.params5] at hA hval
  obtain ⟨v0, vs0, d0, ds0, p0, q0, hargs, rfl, rfl, h0, r0⟩ := trodAll_cons hA
  obtain ⟨v1, vs1, d1, ds1, p1, q1, rfl, rfl, rfl, h1, r1⟩ := trodAll_cons r0
  obtain ⟨v2, vs2, d2, ds2, p2, q2, rfl, rfl, rfl, h2, r2⟩ := trodAll_cons r1
  obtain ⟨rfl, rfl, rfl⟩ := trodAll_nil r2
  obtain rfl : args = #[v0, v1, v2] := by cases args; simp_all
  obtain ⟨rfl, rfl⟩ := trodVars_none hV
  obtain ⟨a0ba, a0sz, a0rd, a0wr, a0ex, rfl, rfl, rfl, w0ba, w0sz⟩ := open_seg (hval 0 24 v0 rfl rfl) h0
  obtain ⟨a1ba, a1sz, a1rd, a1wr, a1ex, rfl, rfl, rfl, w1ba, w1sz⟩ := open_seg (hval 1 24 v1 rfl rfl) h1
  obtain ⟨a2, rfl, rfl, rfl, w2⟩ := open_int Try.underlying22 (hval 2 22 v2 rfl rfl) h2
  clear hA0 hval0
  simp only [List.append_nil] at hW'
  have b0ba : 0 ≤ a0ba ∧ a0ba < 4294967296 := by
    have h := w0ba
    simp only [Lit.wf, Bool.and_eq_true, decide_eq_true_eq] at h
    have e1 : IntKind.u32.min = 0 := by decide
    have e2 : IntKind.u32.max = 4294967295 := by decide
    omega
  have b0sz : 0 ≤ a0sz ∧ a0sz < 4294967296 := by
    have h := w0sz
    simp only [Lit.wf, Bool.and_eq_true, decide_eq_true_eq] at h
    have e1 : IntKind.u32.min = 0 := by decide
    have e2 : IntKind.u32.max = 4294967295 := by decide
    omega
  have b1ba : 0 ≤ a1ba ∧ a1ba < 4294967296 := by
    have h := w1ba
    simp only [Lit.wf, Bool.and_eq_true, decide_eq_true_eq] at h
    have e1 : IntKind.u32.min = 0 := by decide
    have e2 : IntKind.u32.max = 4294967295 := by decide
    omega
  have b1sz : 0 ≤ a1sz ∧ a1sz < 4294967296 := by
    have h := w1sz
    simp only [Lit.wf, Bool.and_eq_true, decide_eq_true_eq] at h
    have e1 : IntKind.u32.min = 0 := by decide
    have e2 : IntKind.u32.max = 4294967295 := by decide
    omega
  have b2 : 0 ≤ a2 ∧ a2 < 4294967296 := by
    have h := w2
    simp only [Lit.wf, Bool.and_eq_true, decide_eq_true_eq] at h
    have e1 : IntKind.u32.min = 0 := by decide
    have e2 : IntKind.u32.max = 4294967295 := by decide
    omega
  refine (segapart_walk a0ba a0sz a0rd a0wr a0ex a1ba a1sz a1rd a1wr a1ex a2 W b0ba.1 b0ba.2 b0sz.1 b0sz.2 b1ba.1 b1ba.2 b1sz.1 b1sz.2 b2.1 b2.2).mono fun e W' ⟨he, hg⟩ => ?_
  subst he
  exact ⟨_, rfl, post_plain hW' hg (fun sp => (trodAll_cons_mk (shut_seg _ _ _ _ _ w0ba w0sz) (trodAll_cons_mk (shut_seg _ _ _ _ _ w1ba w1sz) (trodAll_cons_mk (shut_int Try.underlying22 w2) trodAll_mk0)))) (fun _ => rfl)
    (fun _ _ _ => (trodAll_cons_mk (shut_bool Try.underlying4 _) trodAll_mk0)) (ok_one (by kernel_rfl) rfl (okWide_bool_mk Try.underlying4 _))⟩

theorem segApart_holds : Rows.SegApartSaid :=
  OpenClaim.holds_of_wide 5 Try.f5 rfl rfl rfl rfl rfl rfl rfl ⟨rfl, rfl, rfl, rfl, rfl⟩ rfl rfl rfl rfl rfl (by kernel_rfl) Try.func5 (by kernel_rfl)
    (of_decide_eq_true (by kernel_rfl)) (by unfold Func.isWrapper; first | (rw [if_pos (by decide +kernel)]; kernel_rfl) | (rw [if_neg (by decide +kernel)]; exact ⟨rfl, rfl⟩))
    (fun os started H enc _ => segApart_lifted os started H enc)
#print axioms segApart_holds
end Go.Proofs.Ytfnbnhgcjpfdhaa
