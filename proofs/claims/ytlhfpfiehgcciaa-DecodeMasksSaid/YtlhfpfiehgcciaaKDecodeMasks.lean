/- Just which bytes are a mask with all its bits. -/
import Derived.Test.YtlhfpfiehgcciaaKX
namespace Go.Proofs.Ytlhfpfiehgcciaa
open Go.ChangeShapes Go.WideShapes Go.ChangeAt Go.RowKit

attribute [local go_sem] opd_guard1
/-- the instructions that both lie there -/
def TwoI (w : World) (A B : Nat) (i j : Ins) (u : World) : Prop := Below w.heap.size w u ∧ u.rangeAt A 0 (insL i) ∧ u.rangeAt B 0 (insL j)
theorem TwoI.on {w : World} {A B : Nat} {i j : Ins} {u u' : World} (h : TwoI w A B i j u) (hb : Below u.heap.size u u') : TwoI w A B i j u' := ⟨below_step h.1 hb, range_below hb h.2.1, range_below hb h.2.2⟩
theorem TwoI.cells {w : World} {A B : Nat} {i j : Ins} {u : World} (h : TwoI w A B i j u) : (u.cell? ⟨A, 0, none⟩ = some (.int .i64 i.op) ∧ u.cell? ⟨A, 2, none⟩ = some (.int .i64 i.size) ∧ u.cell? ⟨A, 16, none⟩ = some (.bool i.rep) ∧ u.cell? ⟨A, 17, none⟩ = some (.int .i64 i.len)) ∧ u.cell? ⟨B, 0, none⟩ = some (.int .i64 j.op) ∧ u.cell? ⟨B, 17, none⟩ = some (.int .i64 j.len) :=
  ⟨⟨h.2.1 0 _ rfl, h.2.1 2 _ rfl, h.2.1 16 _ rfl, h.2.1 17 _ rfl⟩, h.2.2 0 _ rfl, h.2.2 17 _ rfl⟩
set_option maxRecDepth 100000 in
set_option maxHeartbeats 4000000 in
theorem decmasks_walk (r v d : Int) (w : World) (r0 : 0 ≤ r) (r1 : r < 256) (v0 : 0 ≤ v) (v1 : v < 256) (d0 : 0 ≤ d) (d1 : d < 4294967296) :
    Calls Try.prog 7 #[.int .u8 r, .int .u8 v, .int .u32 d] w fun e w' => e = .returned (.bool true) ∧ Below w.heap.size w w' := by
  have n1 : bits .and .u8 r 7 = r % 8 := and7 _ r0 r1
  obtain ⟨q, hq⟩ : ∃ q, q = r % 8 := ⟨_, rfl⟩
  have q0 : 0 ≤ q := by omega
  have q1 : q < 8 := by omega
  rw [← hq] at n1
  have n2 : bits .or .u8 224 q = 224 + q := by
    have := or_add8 3 q 28 q0 (by show _ < (8 : Int); omega) (by omega) (by show _ + 28 * 8 < (256 : Int); omega)
    rw [show (28 : Int) * ((2 ^ 3 : Nat) : Int) = 224 from rfl] at this
    rw [this]; omega
  clear hq
  have hI := Lib.hid (mask_short q v q0 q1)
  have hJ := Lib.hid (mask_long q (d % 256) (d / 256 % 256) (d / 65536 % 256) (d / 16777216) q0 q1)
  rw [four_all] at hJ
  have hsx := sx_conv v
  rw [show v % 256 = v by omega] at hsx
  generalize sx9 v = s at *
  have L1 := Lib.hid (lst_ok (l := [131, 224 + q, v]) (by simp; omega))
  have L2 := Lib.hid (lst_ok (l := [129, 224 + q, d % 256, d / 256 % 256, d / 65536 % 256, d / 16777216]) (by simp; omega))
  go_enter Try.func7, Try.ntmps7
  go_wp2_with fail
  refine (known10_any _).mono ?_
  rintro e w0 ⟨rfl, B0⟩
  go_wp2_with fail
  refine (done_any _ 3 _ L1.out (by decide) _ (slc_new w0 _ _ 3 3 _ (Nat.le_refl _) (fun i hi => ?_))).mono ?_
  · match i, hi with
    | 0, _ => rfl
    | 1, _ => rfl
    | 2, _ => rfl
  rintro e w1 ⟨rfl, B1⟩
  rw [hI.out]
  unfold insR
  have HB := Lib.hid (below_step B0 (below_step (below_last (Below.refl _ _) _) B1))
  clear B0 B1
  obtain ⟨I, hIe⟩ : ∃ I : Ins, I = ⟨5, 0, 4, regO 1 q, numO s, 0, false, 3⟩ := ⟨_, rfl⟩
  have HIE := Lib.hid hIe
  rw [← hIe]
  clear hIe
  have HT := Lib.hid (there_alloc_new w1 zeroA 33 18 (by decide))
  go_wp2_with (refine store_ins rfl (.tmp 7) (.tmp 21) rfl w1.heap.size rfl I rfl HT.out ?_; intro Y1 hY hl; obtain ⟨k1, k2, k3, k4⟩ := ins_kept HB.out _ _ rfl Y1 hY; have HR1 := Lib.hid k1; have HBY1 := Lib.hid k2; clear hY hl k1 k2 k4)
  refine (done_any _ 6 _ L2.out (by decide) _ (slc_new Y1 _ _ 6 6 _ (Nat.le_refl _) (fun i hi => ?_))).mono ?_
  · match i, hi with
    | 0, _ => rfl
    | 1, _ => rfl
    | 2, _ => rfl
    | 3, _ => rfl
    | 4, _ => rfl
    | 5, _ => rfl
  rintro e w2 ⟨rfl, B2⟩
  rw [hJ.out]
  unfold insR
  have HR2 := Lib.hid (range_below (below_step (below_last (Below.refl _ _) _) B2) HR1.out)
  have HB2 := Lib.hid (below_step HBY1.out (below_step (below_last (Below.refl _ _) _) B2))
  have hz2 : w1.heap.size < w2.heap.size := Nat.lt_of_lt_of_le k3 (below_step (below_last (Below.refl _ _) _) B2).size
  clear HB HT HR1 HBY1 B2 k3
  have HT := Lib.hid (there_alloc_new w2 zeroA 33 18 (by decide))
  obtain ⟨J, hJe⟩ : ∃ J : Ins, J = ⟨5, 0, 4, regO 1 q, numO d, 0, false, 6⟩ := ⟨_, rfl⟩
  have HJE := Lib.hid hJe
  rw [← hJe]
  clear hJe
  go_wp2_with (refine store_ins rfl (.tmp 9) (.tmp 40) rfl w2.heap.size rfl J rfl HT.out ?_; intro Y2 hY hl; have HTW := Lib.hid (show TwoI w w1.heap.size w2.heap.size I J Y2 by obtain ⟨k1, k2, _⟩ := ins_kept HB2.out _ _ rfl Y2 hY; refine ⟨k2, ?_, k1⟩; rw [hY]; exact World.rangeAt_setCells_apart (World.rangeAt_alloc HR2.out _) _ _ _ (.inl (by omega))); clear hY hl)
  have HRA := Lib.hid (show ∀ u, TwoI w w1.heap.size w2.heap.size I J u → u.rangeAt w1.heap.size 3 (opL' (regO 1 q)) from fun u hu => by have := insL_a hu.2.1; rw [HIE.out] at this; exact this)
  have HRB := Lib.hid (show ∀ u, TwoI w w1.heap.size w2.heap.size I J u → u.rangeAt w1.heap.size 9 (opL' (numO s)) from fun u hu => by have := insL_b hu.2.1; rw [HIE.out] at this; exact this)
  have HRD := Lib.hid (show ∀ u, TwoI w w1.heap.size w2.heap.size I J u → u.rangeAt w2.heap.size 9 (opL' (numO d)) from fun u hu => by have := insL_b hu.2.2; rw [HJE.out] at this; exact this)
  have HCC := Lib.hid (show ∀ u, TwoI w w1.heap.size w2.heap.size I J u → (u.cell? ⟨w1.heap.size, 0, none⟩ = some (.int .i64 5) ∧ u.cell? ⟨w1.heap.size, 2, none⟩ = some (.int .i64 4) ∧ u.cell? ⟨w1.heap.size, 16, none⟩ = some (.bool false) ∧ u.cell? ⟨w1.heap.size, 17, none⟩ = some (.int .i64 3)) ∧ u.cell? ⟨w2.heap.size, 0, none⟩ = some (.int .i64 5) ∧ u.cell? ⟨w2.heap.size, 17, none⟩ = some (.int .i64 6) from fun u hu => by have := hu.cells; rw [HIE.out, HJE.out] at this; exact this)
  have hne := class_const HTW.out
  rw [hsx]
  refine wp_region_quietC (TwoI w w1.heap.size w2.heap.size I J) (by kernel_rfl) (by kernel_rfl) ⟨HTW.out.1.drew, HTW.out.2.1, HTW.out.2.2⟩ ?_
  go_big_quiet_want; go_big_quiet_op; go_big_quiet_on
  go_big_quiet_want; go_big_quiet_op; go_big_quiet_on
  go_big_quiet_want; go_big_quiet_op; go_big_quiet_on
  go_big_quiet_want; go_big_quiet_op; go_big_quiet_on
  go_big_quiet_want; go_big_quiet_op; go_big_quiet_on
  go_big_quiet_want; go_big_quiet_op; go_big_quiet_on
  go_big_quiet_want; go_big_quiet_op; go_big_quiet_on
  go_big_quiet_want; go_big_quiet_op; go_big_quiet_on
  go_big_quiet_want; refine quietC_read 3 (.tmp 53) (.int .i64 5) (fun u hu => by have := (HCC.out u hu).1.1; simp [Act.eval, go_sem, this]) ?_; go_big_quiet_op; go_big_quiet_on
  go_big_quiet_want; go_big_quiet_op; go_big_quiet_on
  go_big_quiet_want; go_big_quiet_op; go_big_quiet_on
  go_big_quiet_want; go_big_quiet_op; go_big_quiet_on
  go_big_quiet_want; go_big_quiet_op; go_big_quiet_on
  go_big_quiet_want; refine quietC_load 31 (.tmp 58) w1.heap.size 3 rfl (opL' (regO 1 q)) _ HRA.out Try.underlying31 rfl info_opd1 ?_; go_big_quiet_op; go_big_quiet_on
  go_big_quiet_want; go_big_quiet_op; go_big_quiet_on
  go_big_quiet_want; go_big_quiet_op; go_big_quiet_on
  go_big_quiet_want; go_big_quiet_op; go_big_quiet_on
  go_big_quiet_want; refine quietC_call 18 #[.const (.int .i64 1), .tmp 62] _ #[.int .i64 1, .int .i64 q] (opV (regO 1 q)) (fun u _ => by simp [Act.eval, go_sem]) (fun u hu => (rregister_below 1 q u).mono fun _ _ ⟨h1, h2⟩ => ⟨h1, hu.on h2⟩) ?_; go_big_quiet_op; go_big_quiet_on
  go_big_quiet_want; refine quietC_eql_opd (.tmp 59) (.tmp 63) (regO 1 q) rfl rfl ?_; go_big_quiet_op; go_big_quiet_on
  go_big_quiet_want; go_big_quiet_op; go_big_quiet_on
  go_big_quiet_want; go_big_quiet_op; go_big_quiet_on
  go_big_quiet_want; go_big_quiet_op; go_big_quiet_on
  go_big_quiet_want; refine quietC_load 31 (.tmp 67) w1.heap.size 9 rfl (opL' (numO s)) _ HRB.out Try.underlying31 rfl info_opd1 ?_; go_big_quiet_op; go_big_quiet_on
  go_big_quiet_want; go_big_quiet_op; go_big_quiet_on
  go_big_quiet_want; refine quietC_call 19 #[.tmp 69] _ #[.int .u32 s] (opV (numO s)) (fun u _ => by simp [Act.eval, go_sem]) (fun u hu => (rnumber_any s u).mono fun _ _ ⟨h1, h2⟩ => ⟨h1, hu.on h2⟩) ?_; go_big_quiet_op; go_big_quiet_on
  go_big_quiet_want; refine quietC_eql_opd (.tmp 68) (.tmp 70) (numO s) rfl rfl ?_; go_big_quiet_op; go_big_quiet_on
  go_big_quiet_want; go_big_quiet_op; go_big_quiet_on
  go_big_quiet_want; go_big_quiet_op; go_big_quiet_on
  go_big_quiet_want; go_big_quiet_op; go_big_quiet_on
  go_big_quiet_want; refine quietC_read 3 (.tmp 74) (.int .i64 3) (fun u hu => by have := (HCC.out u hu).1.2.2.2; simp [Act.eval, go_sem, this]) ?_; go_big_quiet_op; go_big_quiet_on
  go_big_quiet_want; go_big_quiet_op; go_big_quiet_on
  go_big_quiet_want; go_big_quiet_op; go_big_quiet_on
  go_big_quiet_want; go_big_quiet_op; go_big_quiet_on
  go_big_quiet_want; go_big_quiet_op; go_big_quiet_on
  go_big_quiet_want; refine quietC_read 3 (.tmp 79) (.int .i64 5) (fun u hu => by have := (HCC.out u hu).2.1; simp [Act.eval, go_sem, this]) ?_; go_big_quiet_op; go_big_quiet_on
  go_big_quiet_want; go_big_quiet_op; go_big_quiet_on
  go_big_quiet_want; go_big_quiet_op; go_big_quiet_on
  go_big_quiet_want; go_big_quiet_op; go_big_quiet_on
  go_big_quiet_want; go_big_quiet_op; go_big_quiet_on
  go_big_quiet_want; refine quietC_load 31 (.tmp 84) w2.heap.size 9 rfl (opL' (numO d)) _ HRD.out Try.underlying31 rfl info_opd1 ?_; go_big_quiet_op; go_big_quiet_on
  go_big_quiet_want; go_big_quiet_op; go_big_quiet_on
  go_big_quiet_want; refine quietC_call 19 #[.tmp 86] _ #[.int .u32 d] (opV (numO d)) (fun u _ => by simp [Act.eval, go_sem]) (fun u hu => (rnumber_any d u).mono fun _ _ ⟨h1, h2⟩ => ⟨h1, hu.on h2⟩) ?_; go_big_quiet_op; go_big_quiet_on
  go_big_quiet_want; refine quietC_eql_opd (.tmp 85) (.tmp 87) (numO d) rfl rfl ?_; go_big_quiet_op; go_big_quiet_on
  go_big_quiet_want; go_big_quiet_op; go_big_quiet_on
  go_big_quiet_want; go_big_quiet_op; go_big_quiet_on
  go_big_quiet_want; go_big_quiet_op; go_big_quiet_on
  go_big_quiet_want; refine quietC_read 3 (.tmp 91) (.int .i64 6) (fun u hu => by have := (HCC.out u hu).2.2; simp [Act.eval, go_sem, this]) ?_; go_big_quiet_op; go_big_quiet_on
  go_big_quiet_want; go_big_quiet_op; go_big_quiet_on
  go_big_quiet_want; go_big_quiet_op; go_big_quiet_on
  go_big_quiet_want; go_big_quiet_op; go_big_quiet_on
  go_big_quiet_want; go_big_quiet_op; go_big_quiet_on
  go_big_quiet_want; refine quietC_read 3 (.tmp 96) (.int .i64 4) (fun u hu => by have := (HCC.out u hu).1.2.1; simp [Act.eval, go_sem, this]) ?_; go_big_quiet_op; go_big_quiet_on
  go_big_quiet_want; go_big_quiet_op; go_big_quiet_on
  go_big_quiet_want; go_big_quiet_op; go_big_quiet_on
  go_big_quiet_want; go_big_quiet_op; go_big_quiet_on
  go_big_quiet_want; go_big_quiet_op; go_big_quiet_on
  go_big_quiet_want; refine quietC_read 4 (.tmp 101) (.bool false) (fun u hu => by have := (HCC.out u hu).1.2.2.1; simp [Act.eval, go_sem, this]) ?_; go_big_quiet_op; go_big_quiet_on
  go_big_quiet_want; go_big_quiet_op; go_big_quiet_on
  go_big_quiet_want; go_big_quiet_op; go_big_quiet_on
  go_big_quiet_want; go_big_quiet_op; go_big_quiet_on
  refine wpQuiet_nil ?_
  intro W hW
  go_wp2_with fail
  trace_state
  go_ret
  exact ⟨rfl, hW.1⟩

theorem decodeMasks_own : ownKnob Try.prog.godebug = none := by kernel_rfl
set_option maxRecDepth 100000 in
theorem decodeMasks_lifted (os : Os) (started : os.Started) (H : Type) (enc : TypeId × Value → H) :
    ReturnsInHanded {} Try.checked os 7 .any (Rows.decodeMasksSpec.pre6 enc Try.prog Try.f7 Rows.decodeMasksRow.domain false) (Rows.decodeMasksSpec.post enc Try.prog Try.f7 false true false false) := by
  refine returnsInHanded_of_change (C := Try.checked) decodeMasks_own started (by kernel_rfl) Try.func7
    (ChangeSpec.witness6 (enc := enc) (C := Try.checked) false ⟨#[], #[.int .u8 0, .int .u8 0, .int .u32 0], []⟩ 8 (by kernel_rfl) (by kernel_rfl) (by kernel_rfl) (by kernel_rfl)) ?_
  intro W base args ds gs before hval0 hW hcnd _
  have hval : ∀ (j : Nat) t v, Try.f7.params[j]? = some t → args[j]? = some v → Value.okWide Try.prog W .any base t v := hval0
  have hW' := hW
  obtain ⟨p, q, hA0, hV, rfl, hfz, hnd⟩ := hW
  have hA : DataW.TrodAll enc Try.prog W 0 (fun _ => true) true Try.f7.params.toList args.toList ds p := hA0
  rw [Try.params7] at hA hval
  obtain ⟨v0, vs0, d0, ds0, p0, q0, hargs, rfl, rfl, h0, r0⟩ := trodAll_cons hA
  obtain ⟨v1, vs1, d1, ds1, p1, q1, rfl, rfl, rfl, h1, r1⟩ := trodAll_cons r0
  obtain ⟨v2, vs2, d2, ds2, p2, q2, rfl, rfl, rfl, h2, r2⟩ := trodAll_cons r1
  obtain ⟨rfl, rfl, rfl⟩ := trodAll_nil r2
  obtain rfl : args = #[v0, v1, v2] := by cases args; simp_all
  obtain ⟨rfl, rfl⟩ := trodVars_none hV
  obtain ⟨a0, rfl, rfl, rfl, w0⟩ := open_int Try.underlying5 (hval 0 5 v0 rfl rfl) h0
  obtain ⟨a1, rfl, rfl, rfl, w1⟩ := open_int Try.underlying5 (hval 1 5 v1 rfl rfl) h1
  obtain ⟨a2, rfl, rfl, rfl, w2⟩ := open_int Try.underlying23 (hval 2 23 v2 rfl rfl) h2
  clear hA0 hval0
  simp only [List.append_nil] at hW'
  have b0 : 0 ≤ a0 ∧ a0 < 256 := by
    have h := w0
    simp only [Lit.wf, Bool.and_eq_true, decide_eq_true_eq] at h
    have e1 : IntKind.u8.min = 0 := by decide
    have e2 : IntKind.u8.max = 255 := by decide
    omega
  have b1 : 0 ≤ a1 ∧ a1 < 256 := by
    have h := w1
    simp only [Lit.wf, Bool.and_eq_true, decide_eq_true_eq] at h
    have e1 : IntKind.u8.min = 0 := by decide
    have e2 : IntKind.u8.max = 255 := by decide
    omega
  have b2 : 0 ≤ a2 ∧ a2 < 4294967296 := by
    have h := w2
    simp only [Lit.wf, Bool.and_eq_true, decide_eq_true_eq] at h
    have e1 : IntKind.u32.min = 0 := by decide
    have e2 : IntKind.u32.max = 4294967295 := by decide
    omega
  refine (decmasks_walk a0 a1 a2 W b0.1 b0.2 b1.1 b1.2 b2.1 b2.2).mono fun e W' ⟨he, hg⟩ => ?_
  subst he
  exact ⟨_, rfl, post_plain hW' hg (fun sp => (trodAll_cons_mk (shut_int Try.underlying5 w0) (trodAll_cons_mk (shut_int Try.underlying5 w1) (trodAll_cons_mk (shut_int Try.underlying23 w2) trodAll_mk0)))) (fun _ => rfl)
    (fun _ _ _ => (trodAll_cons_mk (shut_bool Try.underlying4 _) trodAll_mk0)) (ok_one (by kernel_rfl) rfl (okWide_bool_mk Try.underlying4 _))⟩

theorem decodeMasks_holds : Rows.DecodeMasksSaid :=
  OpenClaim.holds_of_wide 7 Try.f7 rfl rfl rfl rfl rfl rfl rfl ⟨rfl, rfl, rfl, rfl, rfl⟩ rfl rfl rfl rfl rfl (by kernel_rfl) Try.func7 (by kernel_rfl)
    (of_decide_eq_true (by kernel_rfl)) (by unfold Func.isWrapper; first | (rw [if_pos (by decide +kernel)]; kernel_rfl) | (rw [if_neg (by decide +kernel)]; exact ⟨rfl, rfl⟩))
    (fun os started H enc _ => decodeMasks_lifted os started H enc)
#print axioms decodeMasks_holds
end Go.Proofs.Ytlhfpfiehgcciaa
