/- Each place that a segment tells lies within it, to its last byte. -/
import Derived.Test.YtfnbnhgcjpfdhaaKnown7
import Derived.Test.YtfnbnhgcjpfdhaaShutSeg
import Derived.Test.YtfnbnhgcjpfdhaaCells
import Derived.Deep.RegionHeld3
namespace Go.Proofs.Ytfnbnhgcjpfdhaa
open Go.ChangeShapes Go.WideShapes Go.ChangeAt Go.RowKit

theorem hold_in (b z off n p i : Int) (b0 : 0 ≤ b) (o0 : 0 ≤ off) (i0 : 0 ≤ i) (i1 : i < n) (n1 : n ≤ 16) (hf : fitB b z off n = true) (hp : p = b + off) : 0 ≤ p + i ∧ p + i < 4294967296 ∧ inB b z (p + i) = true := by
  have h := fit_lt b z off n hf
  rw [clampN_id n (by omega) n1] at h
  refine ⟨by omega, by omega, ?_⟩
  unfold inB
  rw [decide_eq_true (by omega), decide_eq_true (by omega)]
  rfl
attribute [local go_sem] isSome_setCell
set_option maxHeartbeats 2000000 in
theorem segholds_walk (b z : Int) (r q x : Bool) (off n : Int) (w : World) (b0 : 0 ≤ b) (b1 : b < 4294967296) (z0 : 0 ≤ z) (z1 : z < 4294967296) (o0 : 0 ≤ off) (o1 : off < 4294967296) (n0 : 0 ≤ n) (n1 : n < 256) :
    Calls Try.prog 4 #[.agg #[.int .u32 b, .int .u32 z, .bool r, .bool q, .bool x], .int .u32 off, .int .u8 n] w fun e w' => e = .returned (.bool true) ∧ Below w.heap.size w w' := by
  obtain ⟨j, hj⟩ : ∃ j : Nat, n % 16 = j := ⟨(n % 16).toNat, by omega⟩
  have hj16 : j < 16 := by omega
  go_enter Try.func4, Try.ntmps4
  go_wp2_with fail
  refine (known7_any _).mono ?_
  rintro e w0 ⟨rfl, B0⟩
  have q0 : w0.cell? ⟨w.heap.size, 0, none⟩ = some (.int .u32 b) := by rw [B0.cell (by simp)]; simp
  have q1 : w0.cell? ⟨w.heap.size, 1, none⟩ = some (.int .u32 z) := by rw [B0.cell (by simp)]; simp
  have q2 : w0.cell? ⟨w.heap.size, 2, none⟩ = some (.bool r) := by rw [B0.cell (by simp)]; simp
  have q3 : w0.cell? ⟨w.heap.size, 3, none⟩ = some (.bool q) := by rw [B0.cell (by simp)]; simp
  have q4 : w0.cell? ⟨w.heap.size, 4, none⟩ = some (.bool x) := by rw [B0.cell (by simp)]; simp
  have qf : w0.frozen? ⟨w.heap.size, 2, none⟩ = false := by rw [B0.frozen (by simp)]; simp
  go_wp2_with fail
  have B1 : Below w.heap.size w (w0.setCell ⟨w.heap.size, 2, none⟩ (.bool true)) := (below_next (Below.refl _ _) B0).setCell (by simp) _
  have s0 : (w0.setCell ⟨w.heap.size, 2, none⟩ (.bool true)).cell? ⟨w.heap.size, 0, none⟩ = some (.int .u32 b) := set_other _ (by simp) q0
  have s1 : (w0.setCell ⟨w.heap.size, 2, none⟩ (.bool true)).cell? ⟨w.heap.size, 1, none⟩ = some (.int .u32 z) := set_other _ (by simp) q1
  have s2 : (w0.setCell ⟨w.heap.size, 2, none⟩ (.bool true)).cell? ⟨w.heap.size, 2, none⟩ = some (.bool true) := set_same _ q2
  have s3 : (w0.setCell ⟨w.heap.size, 2, none⟩ (.bool true)).cell? ⟨w.heap.size, 3, none⟩ = some (.bool q) := set_other _ (by simp) q3
  have s4 : (w0.setCell ⟨w.heap.size, 2, none⟩ (.bool true)).cell? ⟨w.heap.size, 4, none⟩ = some (.bool x) := set_other _ (by simp) q4
  clear q0 q1 q2 q3 q4 qf B0
  generalize w0.setCell ⟨w.heap.size, 2, none⟩ (.bool true) = W at *
  have hV : fitB b z off ((j : Int) + 1) = true → atV b z true q x off ((j : Int) + 1) 0 = b + off ∧ atE b z true q x off ((j : Int) + 1) 0 = 0 := by
    intro h; unfold atV atE; rw [h]; exact ⟨rfl, rfl⟩
  have hN : fitB b z off ((j : Int) + 1) = false → atV b z true q x off ((j : Int) + 1) 0 = 0 ∧ atE b z true q x off ((j : Int) + 1) 0 = 24 := by
    intro h; unfold atV atE; rw [h]; exact ⟨rfl, rfl⟩
  refine (sat_any b z true q x off ((j : Int) + 1) 0 b0 b1 z0 z1 o0 o1 _).mono ?_
  rintro e u ⟨rfl, B2⟩
  have t0 := cell_call B2 s0
  have t1 := cell_call B2 s1
  have t2 := cell_call B2 s2
  have t3 := cell_call B2 s3
  have t4 := cell_call B2 s4
  have B3 := B1.trans (B2.mono B1.size)
  clear s0 s1 s2 s3 s4 B1 B2 hj
  cases hf : fitB b z off ((j : Int) + 1)
  · obtain ⟨hv, he⟩ := hN hf
    rw [hv, he]
    clear hV hN hv he hf
    go_wp2
    go_ret
    exact ⟨rfl, B3⟩
  · obtain ⟨hv, he⟩ := hV hf
    rw [hv, he]
    have hin := fun (i : Int) (i0 : 0 ≤ i) (i1 : i < (j : Int) + 1) => hold_in b z off ((j : Int) + 1) (b + off) i b0 o0 i0 i1 (by omega) hf rfl
    have hlt := fit_lt b z off _ hf
    have hpo : (b + off - b == off) = true := by rw [beq_iff_eq]; omega
    obtain ⟨p, hp⟩ : ∃ p, p = b + off := ⟨_, rfl⟩
    rw [← hp] at hin hpo hlt ⊢
    have p0 : 0 ≤ p := by omega
    have p1 : b ≤ p := by omega
    have p2 : p < 4294967296 := hlt.2.1
    clear hV hN hv he hf hlt hp
    go_wp2_with fail
    go_loopw [10] (fun i wr => ∃ k : Nat, k ≤ j + 1 ∧ i = .int .i64 k ∧ Below u.heap.size u wr) (fun i _ => j + 1 - (intOf i).toNat)
    case atStart => exact ⟨0, by omega, rfl, Below.refl _ _⟩
    case round =>
      obtain ⟨k, hk, rfl, hr⟩ := hrel
      have r0 := cell_call hr t0
      have r1 := cell_call hr t1
      have r2 := cell_call hr t2
      have r3 := cell_call hr t3
      have r4 := cell_call hr t4
      clear t0 t1 t2 t3 t4
      obtain ⟨wo, rfl⟩ : ∃ wo : World, wo = wr := ⟨_, rfl⟩
      by_cases hlt : k < j + 1
      · obtain ⟨i0, i1, i2⟩ := hin k (by omega) (by omega)
        have hd : decide ((k : Int) < (j : Int) + 1) = true := by simp; omega
        clear hin hpo
        go_wp2_with fail
        refine (swithin_any b z (p + k) _ _ _ b0 b1 z0 z1 i0 i1 _).mono ?_
        rintro e u2 ⟨rfl, B4⟩
        go_wp2_with fail
        go_roundw
        case rel => exact ⟨k + 1, by omega, by go_num, hr.trans (B4.mono hr.size)⟩
        case measure => simp [intOf]; omega
      · have hd : decide ((k : Int) < (j : Int) + 1) = false := by simp; omega
        clear hin
        go_wp2
        go_ret
        exact ⟨by simp, B3.trans (hr.mono B3.size)⟩

theorem segHolds_own : ownKnob Try.prog.godebug = none := by kernel_rfl
set_option maxRecDepth 100000 in
theorem segHolds_lifted (os : Os) (started : os.Started) (H : Type) (enc : TypeId × Value → H) :
    ReturnsInHanded {} Try.checked os 4 .any (Rows.segHoldsSpec.pre6 enc Try.prog Try.f4 Rows.segHoldsRow.domain false) (Rows.segHoldsSpec.post enc Try.prog Try.f4 false true false false) := by
  refine returnsInHanded_of_change (C := Try.checked) segHolds_own started (by kernel_rfl) Try.func4
    (ChangeSpec.witness6 (enc := enc) (C := Try.checked) false ⟨#[], #[.agg #[.int .u32 0, .int .u32 0, .bool false, .bool false, .bool false], .int .u32 0, .int .u8 0], []⟩ 8 (by kernel_rfl) (by kernel_rfl) (by kernel_rfl) (by kernel_rfl)) ?_
  intro W base args ds gs before hval0 hW hcnd _
  have hval : ∀ (j : Nat) t v, Try.f4.params[j]? = some t → args[j]? = some v → Value.okWide Try.prog W .any base t v := hval0
  have hW' := hW
  obtain ⟨p, q, hA0, hV, rfl, hfz, hnd⟩ := hW
  have hA : DataW.TrodAll enc Try.prog W 0 (fun _ => true) true Try.f4.params.toList args.toList ds p := hA0
  rw [Try.params4] at hA hval
  obtain ⟨v0, vs0, d0, ds0, p0, q0, hargs, rfl, rfl, h0, r0⟩ := trodAll_cons hA
  obtain ⟨v1, vs1, d1, ds1, p1, q1, rfl, rfl, rfl, h1, r1⟩ := trodAll_cons r0
  obtain ⟨v2, vs2, d2, ds2, p2, q2, rfl, rfl, rfl, h2, r2⟩ := trodAll_cons r1
  obtain ⟨rfl, rfl, rfl⟩ := trodAll_nil r2
  obtain rfl : args = #[v0, v1, v2] := by cases args; simp_all
  obtain ⟨rfl, rfl⟩ := trodVars_none hV
  obtain ⟨a0ba, a0sz, a0rd, a0wr, a0ex, rfl, rfl, rfl, w0ba, w0sz⟩ := open_seg (hval 0 24 v0 rfl rfl) h0
  obtain ⟨a1, rfl, rfl, rfl, w1⟩ := open_int Try.underlying22 (hval 1 22 v1 rfl rfl) h1
  obtain ⟨a2, rfl, rfl, rfl, w2⟩ := open_int Try.underlying5 (hval 2 5 v2 rfl rfl) h2
  clear hA0 hval0
  simp only [List.append_nil] at hW'
  have b0ba : 0 ≤ a0ba ∧ a0ba < 4294967296 := by
    have h := w0ba
    simp only [Lit.wf, Bool.and_eq_true, decide_eq_true_eq] at h
    have e1 : IntKind.u32.min = 0 := by decide
    have e2 : IntKind.u32.max = 4294967295 := by decide
    omega
  have b0sz : 0 ≤ a0sz ∧ a0sz < 4294967296 := by
    have h := w0sz
    simp only [Lit.wf, Bool.and_eq_true, decide_eq_true_eq] at h
    have e1 : IntKind.u32.min = 0 := by decide
    have e2 : IntKind.u32.max = 4294967295 := by decide
    omega
  have b1 : 0 ≤ a1 ∧ a1 < 4294967296 := by
    have h := w1
    simp only [Lit.wf, Bool.and_eq_true, decide_eq_true_eq] at h
    have e1 : IntKind.u32.min = 0 := by decide
    have e2 : IntKind.u32.max = 4294967295 := by decide
    omega
  have b2 : 0 ≤ a2 ∧ a2 < 256 := by
    have h := w2
    simp only [Lit.wf, Bool.and_eq_true, decide_eq_true_eq] at h
    have e1 : IntKind.u8.min = 0 := by decide
    have e2 : IntKind.u8.max = 255 := by decide
    omega
  refine (segholds_walk a0ba a0sz a0rd a0wr a0ex a1 a2 W b0ba.1 b0ba.2 b0sz.1 b0sz.2 b1.1 b1.2 b2.1 b2.2).mono fun e W' ⟨he, hg⟩ => ?_
  subst he
  exact ⟨_, rfl, post_plain hW' hg (fun sp => (trodAll_cons_mk (shut_seg _ _ _ _ _ w0ba w0sz) (trodAll_cons_mk (shut_int Try.underlying22 w1) (trodAll_cons_mk (shut_int Try.underlying5 w2) trodAll_mk0)))) (fun _ => rfl)
    (fun _ _ _ => (trodAll_cons_mk (shut_bool Try.underlying4 _) trodAll_mk0)) (ok_one (by kernel_rfl) rfl (okWide_bool_mk Try.underlying4 _))⟩

theorem segHolds_holds : Rows.SegHoldsSaid :=
  OpenClaim.holds_of_wide 4 Try.f4 rfl rfl rfl rfl rfl rfl rfl ⟨rfl, rfl, rfl, rfl, rfl⟩ rfl rfl rfl rfl rfl (by kernel_rfl) Try.func4 (by kernel_rfl)
    (of_decide_eq_true (by kernel_rfl)) (by unfold Func.isWrapper; first | (rw [if_pos (by decide +kernel)]; kernel_rfl) | (rw [if_neg (by decide +kernel)]; exact ⟨rfl, rfl⟩))
    (fun os started H enc _ => segHolds_lifted os started H enc)
#print axioms segHolds_holds
end Go.Proofs.Ytfnbnhgcjpfdhaa
