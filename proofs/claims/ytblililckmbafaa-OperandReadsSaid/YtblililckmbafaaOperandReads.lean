/- Which operand any bytes are, or why none. -/
import Derived.Test.YtblililckmbafaaKnown9
import Derived.Test.YtblililckmbafaaShutMem
namespace Go.Proofs.Ytblililckmbafaa
open Go.ChangeShapes Go.WideShapes Go.ChangeAt Go.RowKit

set_option maxRecDepth 100000 in
set_option maxHeartbeats 8000000 in
theorem oreads_walk (v : Value) (L : Nat) (bs : Nat → Int) (m s d cut : Int) (w : World) (hs : Slc .u8 w v L bs) (hb : ∀ i, 0 ≤ bs i ∧ bs i < 256) (hL : L ≤ maxLen) (m0 : 0 ≤ m) (m1 : m < 256) (s0 : 0 ≤ s) (s1 : s < 256) (d0 : 0 ≤ d) (d1 : d < 4294967296) (t0 : 0 ≤ cut) (t1 : cut < 256) :
    Calls Try.prog 3 #[v, .int .u8 m, .int .u8 s, .int .u32 d, .int .u8 cut] w fun e w' => e = .returned (.bool true) ∧ Below w.heap.size w w' := by
  have hmax := hL
  unfold maxLen at hL
  obtain ⟨x, cap, rfl⟩ := hs.len
  go_enter Try.func3, Try.ntmps3
  go_wp2_with fail
  refine (known9_any _).mono ?_
  rintro e w0 ⟨rfl, B0⟩
  have hs0 := hs.below B0
  clear hs
  by_cases hbig : 100 < L
  · have hd : decide ((100 : Int) < (L : Int)) = true := decide_eq_true (by omega)
    go_wp2
    go_ret
    exact ⟨rfl, B0⟩
  have hd : decide ((100 : Int) < (L : Int)) = false := decide_eq_false (by omega)
  have H0 := Lib.hid hs0
  have HB := Lib.hid hb
  clear hs0 hbig hb
  obtain ⟨cu, hcu⟩ : ∃ c : Nat, (c : Int) = cut % 7 := ⟨(cut % 7).toNat, by omega⟩
  have hcu6 : cu ≤ 6 := by omega
  go_wp2_with fail
  obtain ⟨W, hW⟩ : ∃ W, W = (w0.alloc (.cells #[.int .u8 m, .int .u8 s, .int .u8 (d % 256), .int .u8 (d / 256 % 256), .int .u8 (d / 65536 % 256), .int .u8 (d / 16777216)] 5)).alloc (.cells #[.slice x L cap, .slice (some ⟨w0.heap.size, 0, none⟩) 6 6, .slice (some ⟨w0.heap.size, 0, none⟩) (cut % 7).toNat 6] 22) := ⟨_, rfl⟩
  have hBW : Below w.heap.size w W := by rw [hW]; exact below_last (below_last B0 _) _
  have hX : ∀ n, n ≤ 6 → Slc .u8 W (.slice (some ⟨w0.heap.size, 0, none⟩) n 6) n (lst [m, s, d % 256, d / 256 % 256, d / 65536 % 256, d / 16777216]) := fun n hn => by
    rw [hW]
    exact (slc_new w0 _ _ n 6 _ hn (fun i hi => by
      match i, (show i < 6 by omega) with
      | 0, _ => rfl
      | 1, _ => rfl
      | 2, _ => rfl
      | 3, _ => rfl
      | 4, _ => rfl
      | 5, _ => rfl)).below (below_last (Below.refl _ _) _)
  have hXb : ∀ i, 0 ≤ lst [m, s, d % 256, d / 256 % 256, d / 65536 % 256, d / 16777216] i ∧ lst [m, s, d % 256, d / 256 % 256, d / 65536 % 256, d / 16777216] i < 256 := lst_ok (fun y hy => by
    simp only [List.mem_cons, List.not_mem_nil, or_false] at hy
    rcases hy with rfl | rfl | rfl | rfl | rfl | rfl <;> omega)
  have HY : ∀ k, k < 3 → ∃ v n bs, W.cell? ⟨w0.heap.size + 1, k, none⟩ = some v ∧ Slc .u8 W v n bs ∧ (∀ i, 0 ≤ bs i ∧ bs i < 256) ∧ n ≤ maxLen := fun k hk => by
    match k, hk with
    | 0, _ => exact ⟨.slice x L cap, L, bs, by rw [hW]; simp [go_sem], by rw [hW]; exact H0.out.below (below_last (below_last (Below.refl _ _) _) _), HB.out, hmax⟩
    | 1, _ => exact ⟨_, 6, _, by rw [hW]; simp [go_sem], hX 6 (Nat.le_refl _), hXb, by decide⟩
    | 2, _ => exact ⟨_, (cut % 7).toNat, _, by rw [hW]; simp [go_sem], hX _ (by omega), hXb, by unfold maxLen; omega⟩
  have HYY := Lib.hid HY
  clear HY
  rw [← hW]
  have hz : w0.heap.size + 1 < W.heap.size := by rw [hW]; simp
  have HBW := Lib.hid hBW
  clear hX hXb hBW hW H0 HB B0 hd hcu
  go_loopw [50] (fun v50 wr => ∃ k : Nat, k ≤ 3 ∧ v50 = .int .i64 k ∧ Below W.heap.size W wr) (fun v50 _ => 3 - (intOf v50).toNat)
  case atStart => exact ⟨0, by omega, rfl, Below.refl _ _⟩
  case round =>
    obtain ⟨k, hk, rfl, hbr⟩ := hrel
    by_cases hlt : k < 3
    · obtain ⟨v, n, bs, hc, hsl, hby, hn⟩ := HYY.out k hlt
      have hc' := hbr.cell (p := ⟨w0.heap.size + 1, k, none⟩) (by show w0.heap.size + 1 < _; omega)
      rw [hc] at hc'
      have HS := Lib.hid (hsl.below hbr)
      have HB := Lib.hid hbr
      have HI := Lib.hid hby
      clear hc hsl hbr hby
      have hd : decide ((k : Int) < 3) = true := decide_eq_true (by omega)
      cases hr : rmF n bs with
      | none =>
        have HV := Lib.hid (rmV_none hr)
        clear hr
        go_wp2_with fail
        refine (mrread_any v n bs HI.out _ HS.out hn).mono ?_
        rintro e w1 ⟨rfl, B1⟩
        rw [HV.out]
        have HS1 := Lib.hid (HS.out.below B1)
        have HB1 := Lib.hid (HB.out.trans (B1.mono HB.out.size))
        clear B1
        go_wp2_with fail
        refine (rm_any v n bs HI.out _ (HS1.out.below (below_last (Below.refl _ _) _)) hn).mono ?_
        rintro e w2 ⟨rfl, B2⟩
        rw [HV.out]
        obtain ⟨⟨q0, q1, q2, q3, q4, q5⟩, hz2⟩ := six_kept B2
        have HB2 := Lib.hid (below_step HB1.out (below_step (below_last (Below.refl _ _) _) B2))
        clear B2
        go_wp2_with fail
        go_roundw
        case rel => exact ⟨k + 1, by omega, by go_num, below_last HB2.out _⟩
        case measure => simp [intOf]; omega
      | some t =>
        obtain ⟨o, r, q⟩ := t
        have HV := Lib.hid (rmV_some hr)
        clear hr
        go_wp2_with fail
        refine (mrread_any v n bs HI.out _ HS.out hn).mono ?_
        rintro e w1 ⟨rfl, B1⟩
        rw [HV.out]
        have HS1 := Lib.hid (HS.out.below B1)
        have HB1 := Lib.hid (HB.out.trans (B1.mono HB.out.size))
        clear B1
        go_wp2_with fail
        refine (rm_any v n bs HI.out _ (HS1.out.below (below_last (Below.refl _ _) _)) hn).mono ?_
        rintro e w2 ⟨rfl, B2⟩
        rw [HV.out]
        obtain ⟨⟨q0, q1, q2, q3, q4, q5⟩, hz2⟩ := six_kept B2
        have HB2 := Lib.hid (below_step HB1.out (below_step (below_last (Below.refl _ _) _) B2))
        clear B2
        go_wp2_with fail
        go_roundw
        case rel => exact ⟨k + 1, by omega, by go_num, below_last HB2.out _⟩
        case measure => simp [intOf]; omega
    · obtain rfl : k = 3 := by omega
      have hd : decide (((3 : Nat) : Int) < 3) = false := rfl
      go_wp2
      go_ret
      exact ⟨rfl, HBW.out.trans (hbr.mono HBW.out.size)⟩

theorem operandReads_own : ownKnob Try.prog.godebug = none := by kernel_rfl
set_option maxRecDepth 100000 in
theorem operandReads_lifted (os : Os) (started : os.Started) (H : Type) (enc : TypeId × Value → H) :
    ReturnsInHanded {} Try.checked os 3 .any (Rows.operandReadsSpec.pre6 enc Try.prog Try.f3 Rows.operandReadsRow.domain false) (Rows.operandReadsSpec.post enc Try.prog Try.f3 false true false false) := by
  refine returnsInHanded_of_change (C := Try.checked) operandReads_own started (by kernel_rfl) Try.func3
    (ChangeSpec.witness6 (enc := enc) (C := Try.checked) false ⟨#[], #[.slice none 0 0, .int .u8 0, .int .u8 0, .int .u32 0, .int .u8 0], []⟩ 8 (by kernel_rfl) (by kernel_rfl) (by kernel_rfl) (by kernel_rfl)) ?_
  intro W base args ds gs before hval0 hW hcnd _
  have hval : ∀ (j : Nat) t v, Try.f3.params[j]? = some t → args[j]? = some v → Value.okWide Try.prog W .any base t v := hval0
  have hW' := hW
  obtain ⟨p, q, hA0, hV, rfl, hfz, hnd⟩ := hW
  have hA : DataW.TrodAll enc Try.prog W 0 (fun _ => true) true Try.f3.params.toList args.toList ds p := hA0
  rw [Try.params3] at hA hval
  obtain ⟨v0, vs0, d0, ds0, p0, q0, hargs, rfl, rfl, h0, r0⟩ := trodAll_cons hA
  obtain ⟨v1, vs1, d1, ds1, p1, q1, rfl, rfl, rfl, h1, r1⟩ := trodAll_cons r0
  obtain ⟨v2, vs2, d2, ds2, p2, q2, rfl, rfl, rfl, h2, r2⟩ := trodAll_cons r1
  obtain ⟨v3, vs3, d3, ds3, p3, q3, rfl, rfl, rfl, h3, r3⟩ := trodAll_cons r2
  obtain ⟨v4, vs4, d4, ds4, p4, q4, rfl, rfl, rfl, h4, r4⟩ := trodAll_cons r3
  obtain ⟨rfl, rfl, rfl⟩ := trodAll_nil r4
  obtain rfl : args = #[v0, v1, v2, v3, v4] := by cases args; simp_all
  obtain ⟨rfl, rfl⟩ := trodVars_none hV
  obtain ⟨L0, bs0, hs0, hw0, hL0⟩ := open_slc Try.underlying22 Try.underlying5 (by kernel_rfl) (hval 0 22 v0 rfl rfl) h0
  obtain ⟨a1, rfl, rfl, rfl, w1⟩ := open_int Try.underlying5 (hval 1 5 v1 rfl rfl) h1
  obtain ⟨a2, rfl, rfl, rfl, w2⟩ := open_int Try.underlying5 (hval 2 5 v2 rfl rfl) h2
  obtain ⟨a3, rfl, rfl, rfl, w3⟩ := open_int Try.underlying23 (hval 3 23 v3 rfl rfl) h3
  obtain ⟨a4, rfl, rfl, rfl, w4⟩ := open_int Try.underlying5 (hval 4 5 v4 rfl rfl) h4
  clear hA0 hval0
  simp only [List.append_nil] at hW'
  have b0 : ∀ i, 0 ≤ bs0 i ∧ bs0 i < 256 := fun i => by
    have h := hw0 i
    simp only [Lit.wf, Bool.and_eq_true, decide_eq_true_eq] at h
    have e1 : IntKind.u8.min = 0 := by decide
    have e2 : IntKind.u8.max = 255 := by decide
    omega
  have b1 : 0 ≤ a1 ∧ a1 < 256 := by
    have h := w1
    simp only [Lit.wf, Bool.and_eq_true, decide_eq_true_eq] at h
    have e1 : IntKind.u8.min = 0 := by decide
    have e2 : IntKind.u8.max = 255 := by decide
    omega
  have b2 : 0 ≤ a2 ∧ a2 < 256 := by
    have h := w2
    simp only [Lit.wf, Bool.and_eq_true, decide_eq_true_eq] at h
    have e1 : IntKind.u8.min = 0 := by decide
    have e2 : IntKind.u8.max = 255 := by decide
    omega
  have b3 : 0 ≤ a3 ∧ a3 < 4294967296 := by
    have h := w3
    simp only [Lit.wf, Bool.and_eq_true, decide_eq_true_eq] at h
    have e1 : IntKind.u32.min = 0 := by decide
    have e2 : IntKind.u32.max = 4294967295 := by decide
    omega
  have b4 : 0 ≤ a4 ∧ a4 < 256 := by
    have h := w4
    simp only [Lit.wf, Bool.and_eq_true, decide_eq_true_eq] at h
    have e1 : IntKind.u8.min = 0 := by decide
    have e2 : IntKind.u8.max = 255 := by decide
    omega
  refine (oreads_walk v0 L0 bs0 a1 a2 a3 a4 W hs0 b0 hL0 b1.1 b1.2 b2.1 b2.2 b3.1 b3.2 b4.1 b4.2).mono fun e W' ⟨he, hg⟩ => ?_
  subst he
  exact ⟨_, rfl, post_mem hW' rfl (by kernel_rfl) (by kernel_rfl) hg rfl rfl
    (fun _ _ _ => (trodAll_cons_mk (shut_bool Try.underlying4 _) trodAll_mk0)) (ok_one (by kernel_rfl) rfl (okWide_bool_mk Try.underlying4 _))⟩

theorem operandReads_holds : Rows.OperandReadsSaid :=
  OpenClaim.holds_of_wide 3 Try.f3 rfl rfl rfl rfl rfl rfl rfl ⟨rfl, rfl, rfl, rfl, rfl⟩ rfl rfl rfl rfl rfl (by kernel_rfl) Try.func3 (by kernel_rfl)
    (of_decide_eq_true (by kernel_rfl)) (by unfold Func.isWrapper; first | (rw [if_pos (by decide +kernel)]; kernel_rfl) | (rw [if_neg (by decide +kernel)]; exact ⟨rfl, rfl⟩))
    (fun os started H enc _ => operandReads_lifted os started H enc)
#print axioms operandReads_holds
end Go.Proofs.Ytblililckmbafaa
