import Derived.Deep.DeepCutAuto
import Derived.Test.YtgihiddiceinhaaDoorKND
namespace Go.Proofs.YtgihiddiceinhaaDoor
open Go.ChangeShapes Go.WideShapes Go.ChangeAt Go.RowKit
section
attribute [local go_sem] isSome_setCell
set_option maxRecDepth 100000
set_option maxHeartbeats 4000000
theorem first_143 (reg : Int) (m3 : Bool) (r0 : -1 ≤ reg) (r1 : reg < 8) (w : World) : Calls Tryd.prog 23 #[.int .u8 143, .int .i64 reg, .bool m3] w fun e w' => e = .returned (fstL (firstF 143 reg m3)) ∧ Below w.heap.size w w' := by
  obtain ⟨x, hx⟩ : ∃ x, byF 143 reg [24] 4 [69] = x := ⟨_, rfl⟩
  have HF := Lib.hid (show firstF 143 reg m3 = x by rw [← hx]; rfl)
  have HX := Lib.hid hx
  clear hx
  go_enter Tryd.func23, Tryd.ntmps23
  go_wp2_with (first | (go_at_call 42; refine (size4_any _ (by first | decide | omega) (by first | decide | omega) _).mono ?_; rintro e w' ⟨rfl, rfl⟩) | (go_at_call 45; refine (by_new 143 reg 4 [24] [69] _ (by decide) (by decide) r0 r1 (by decide) x HX _ _ _ _ _ (by simp) rfl rfl rfl).mono ?_; rintro e w1 ⟨rfl, B1⟩; have HB := Lib.hid (below_step (below_last (below_last (Below.refl _ _) _) _) B1); obtain ⟨q0, q1, q2, q3, q4, qf⟩ := five_kept (five_kept1 B1); clear B1))
  refine bodyPost_ret (v := .tuple #[.agg #[.int .i64 x.1.op, .int .i64 x.1.cond, .int .i64 x.1.size, .string ⟨x.1.how.toArray⟩, .int .i64 x.1.c], .bool x.2.1, .bool x.2.2]) (by simp [results, Tryd.results23, go_sem, q0, q1, q2, q3, q4]) rfl ⟨by rw [HF.out]; rfl, ?_⟩
  exact below5 HB.out _ (Nat.le_refl _)
theorem first_198 (reg : Int) (m3 : Bool) (r0 : -1 ≤ reg) (r1 : reg < 8) (w : World) : Calls Tryd.prog 23 #[.int .u8 198, .int .i64 reg, .bool m3] w fun e w' => e = .returned (fstL (firstF 198 reg m3)) ∧ Below w.heap.size w w' := by
  obtain ⟨x, hx⟩ : ∃ x, byF 198 reg [18] 1 [69, 73] = x := ⟨_, rfl⟩
  have HF := Lib.hid (show firstF 198 reg m3 = x by rw [← hx]; rfl)
  have HX := Lib.hid hx
  clear hx
  go_enter Tryd.func23, Tryd.ntmps23
  go_wp2_with (first | (go_at_call 42; refine (size4_any _ (by first | decide | omega) (by first | decide | omega) _).mono ?_; rintro e w' ⟨rfl, rfl⟩) | (go_at_call 45; refine (by_new 198 reg 1 [18] [69, 73] _ (by decide) (by decide) r0 r1 (by decide) x HX _ _ _ _ _ (by simp) rfl rfl rfl).mono ?_; rintro e w1 ⟨rfl, B1⟩; have HB := Lib.hid (below_step (below_last (below_last (Below.refl _ _) _) _) B1); obtain ⟨q0, q1, q2, q3, q4, qf⟩ := five_kept (five_kept1 B1); clear B1))
  refine bodyPost_ret (v := .tuple #[.agg #[.int .i64 x.1.op, .int .i64 x.1.cond, .int .i64 x.1.size, .string ⟨x.1.how.toArray⟩, .int .i64 x.1.c], .bool x.2.1, .bool x.2.2]) (by simp [results, Tryd.results23, go_sem, q0, q1, q2, q3, q4]) rfl ⟨by rw [HF.out]; rfl, ?_⟩
  exact below5 HB.out _ (Nat.le_refl _)
theorem first_199 (reg : Int) (m3 : Bool) (r0 : -1 ≤ reg) (r1 : reg < 8) (w : World) : Calls Tryd.prog 23 #[.int .u8 199, .int .i64 reg, .bool m3] w fun e w' => e = .returned (fstL (firstF 199 reg m3)) ∧ Below w.heap.size w w' := by
  obtain ⟨x, hx⟩ : ∃ x, byF 199 reg [18] 4 [69, 73] = x := ⟨_, rfl⟩
  have HF := Lib.hid (show firstF 199 reg m3 = x by rw [← hx]; rfl)
  have HX := Lib.hid hx
  clear hx
  go_enter Tryd.func23, Tryd.ntmps23
  go_wp2_with (first | (go_at_call 42; refine (size4_any _ (by first | decide | omega) (by first | decide | omega) _).mono ?_; rintro e w' ⟨rfl, rfl⟩) | (go_at_call 45; refine (by_new 199 reg 4 [18] [69, 73] _ (by decide) (by decide) r0 r1 (by decide) x HX _ _ _ _ _ (by simp) rfl rfl rfl).mono ?_; rintro e w1 ⟨rfl, B1⟩; have HB := Lib.hid (below_step (below_last (below_last (Below.refl _ _) _) _) B1); obtain ⟨q0, q1, q2, q3, q4, qf⟩ := five_kept (five_kept1 B1); clear B1))
  refine bodyPost_ret (v := .tuple #[.agg #[.int .i64 x.1.op, .int .i64 x.1.cond, .int .i64 x.1.size, .string ⟨x.1.how.toArray⟩, .int .i64 x.1.c], .bool x.2.1, .bool x.2.2]) (by simp [results, Tryd.results23, go_sem, q0, q1, q2, q3, q4]) rfl ⟨by rw [HF.out]; rfl, ?_⟩
  exact below5 HB.out _ (Nat.le_refl _)
theorem first_254 (reg : Int) (m3 : Bool) (r0 : -1 ≤ reg) (r1 : reg < 8) (w : World) : Calls Tryd.prog 23 #[.int .u8 254, .int .i64 reg, .bool m3] w fun e w' => e = .returned (fstL (firstF 254 reg m3)) ∧ Below w.heap.size w w' := by
  obtain ⟨x, hx⟩ : ∃ x, byF 254 reg [16, 17] 1 [69] = x := ⟨_, rfl⟩
  have HF := Lib.hid (show firstF 254 reg m3 = x by rw [← hx]; rfl)
  have HX := Lib.hid hx
  clear hx
  go_enter Tryd.func23, Tryd.ntmps23
  go_wp2_with (first | (go_at_call 42; refine (size4_any _ (by first | decide | omega) (by first | decide | omega) _).mono ?_; rintro e w' ⟨rfl, rfl⟩) | (go_at_call 45; refine (by_new 254 reg 1 [16, 17] [69] _ (by decide) (by decide) r0 r1 (by decide) x HX _ _ _ _ _ (by simp) rfl rfl rfl).mono ?_; rintro e w1 ⟨rfl, B1⟩; have HB := Lib.hid (below_step (below_last (below_last (Below.refl _ _) _) _) B1); obtain ⟨q0, q1, q2, q3, q4, qf⟩ := five_kept (five_kept1 B1); clear B1))
  refine bodyPost_ret (v := .tuple #[.agg #[.int .i64 x.1.op, .int .i64 x.1.cond, .int .i64 x.1.size, .string ⟨x.1.how.toArray⟩, .int .i64 x.1.c], .bool x.2.1, .bool x.2.2]) (by simp [results, Tryd.results23, go_sem, q0, q1, q2, q3, q4]) rfl ⟨by rw [HF.out]; rfl, ?_⟩
  exact below5 HB.out _ (Nat.le_refl _)
theorem first_255 (reg : Int) (m3 : Bool) (r0 : -1 ≤ reg) (r1 : reg < 8) (w : World) : Calls Tryd.prog 23 #[.int .u8 255, .int .i64 reg, .bool m3] w fun e w' => e = .returned (fstL (firstF 255 reg m3)) ∧ Below w.heap.size w w' := by
  obtain ⟨x, hx⟩ : ∃ x, byF 255 reg [16, 17, 33, 0, 32, 0, 23] 4 [69] = x := ⟨_, rfl⟩
  have HF := Lib.hid (show firstF 255 reg m3 = x by rw [← hx]; rfl)
  have HX := Lib.hid hx
  clear hx
  go_enter Tryd.func23, Tryd.ntmps23
  go_wp2_with (first | (go_at_call 42; refine (size4_any _ (by first | decide | omega) (by first | decide | omega) _).mono ?_; rintro e w' ⟨rfl, rfl⟩) | (go_at_call 45; refine (by_new 255 reg 4 [16, 17, 33, 0, 32, 0, 23] [69] _ (by decide) (by decide) r0 r1 (by decide) x HX _ _ _ _ _ (by simp) rfl rfl rfl).mono ?_; rintro e w1 ⟨rfl, B1⟩; have HB := Lib.hid (below_step (below_last (below_last (Below.refl _ _) _) _) B1); obtain ⟨q0, q1, q2, q3, q4, qf⟩ := five_kept (five_kept1 B1); clear B1))
  refine bodyPost_ret (v := .tuple #[.agg #[.int .i64 x.1.op, .int .i64 x.1.cond, .int .i64 x.1.size, .string ⟨x.1.how.toArray⟩, .int .i64 x.1.c], .bool x.2.1, .bool x.2.2]) (by simp [results, Tryd.results23, go_sem, q0, q1, q2, q3, q4]) rfl ⟨by rw [HF.out]; rfl, ?_⟩
  exact below5 HB.out _ (Nat.le_refl _)
theorem first_193 (reg : Int) (m3 : Bool) (r0 : -1 ≤ reg) (r1 : reg < 8) (w : World) : Calls Tryd.prog 23 #[.int .u8 193, .int .i64 reg, .bool m3] w fun e w' => e = .returned (fstL (firstF 193 reg m3)) ∧ Below w.heap.size w w' := by
  obtain ⟨x, hx⟩ : ∃ x, byF 193 reg shfs 4 [69, 98] = x := ⟨_, rfl⟩
  have HF := Lib.hid (show firstF 193 reg m3 = x by rw [← hx]; rfl)
  have HX := Lib.hid hx
  clear hx
  go_enter Tryd.func23, Tryd.ntmps23
  go_wp2_with (first | (go_at_call 42; refine (size4_any _ (by first | decide | omega) (by first | decide | omega) _).mono ?_; rintro e w' ⟨rfl, rfl⟩) | (go_at_call 46; refine (shifts_any _).mono ?_; rintro e w' ⟨rfl, rfl⟩) | (go_at_call 45; refine (by_new 193 reg 4 shfs [69, 98] _ (by decide) (by decide) r0 r1 (by decide) x HX _ _ _ _ _ (by simp) rfl rfl rfl).mono ?_; rintro e w1 ⟨rfl, B1⟩; have HB := Lib.hid (below_step (below_last (below_last (Below.refl _ _) _) _) B1); obtain ⟨q0, q1, q2, q3, q4, qf⟩ := five_kept (five_kept1 B1); clear B1))
  refine bodyPost_ret (v := .tuple #[.agg #[.int .i64 x.1.op, .int .i64 x.1.cond, .int .i64 x.1.size, .string ⟨x.1.how.toArray⟩, .int .i64 x.1.c], .bool x.2.1, .bool x.2.2]) (by simp [results, Tryd.results23, go_sem, q0, q1, q2, q3, q4]) rfl ⟨by rw [HF.out]; rfl, ?_⟩
  exact below5 HB.out _ (Nat.le_refl _)
theorem first_209 (reg : Int) (m3 : Bool) (r0 : -1 ≤ reg) (r1 : reg < 8) (w : World) : Calls Tryd.prog 23 #[.int .u8 209, .int .i64 reg, .bool m3] w fun e w' => e = .returned (fstL (firstF 209 reg m3)) ∧ Below w.heap.size w w' := by
  obtain ⟨x, hx⟩ : ∃ x, byF 209 reg shfs 4 [69, 49] = x := ⟨_, rfl⟩
  have HF := Lib.hid (show firstF 209 reg m3 = x by rw [← hx]; rfl)
  have HX := Lib.hid hx
  clear hx
  go_enter Tryd.func23, Tryd.ntmps23
  go_wp2_with (first | (go_at_call 42; refine (size4_any _ (by first | decide | omega) (by first | decide | omega) _).mono ?_; rintro e w' ⟨rfl, rfl⟩) | (go_at_call 46; refine (shifts_any _).mono ?_; rintro e w' ⟨rfl, rfl⟩) | (go_at_call 45; refine (by_new 209 reg 4 shfs [69, 49] _ (by decide) (by decide) r0 r1 (by decide) x HX _ _ _ _ _ (by simp) rfl rfl rfl).mono ?_; rintro e w1 ⟨rfl, B1⟩; have HB := Lib.hid (below_step (below_last (below_last (Below.refl _ _) _) _) B1); obtain ⟨q0, q1, q2, q3, q4, qf⟩ := five_kept (five_kept1 B1); clear B1))
  refine bodyPost_ret (v := .tuple #[.agg #[.int .i64 x.1.op, .int .i64 x.1.cond, .int .i64 x.1.size, .string ⟨x.1.how.toArray⟩, .int .i64 x.1.c], .bool x.2.1, .bool x.2.2]) (by simp [results, Tryd.results23, go_sem, q0, q1, q2, q3, q4]) rfl ⟨by rw [HF.out]; rfl, ?_⟩
  exact below5 HB.out _ (Nat.le_refl _)
theorem first_211 (reg : Int) (m3 : Bool) (r0 : -1 ≤ reg) (r1 : reg < 8) (w : World) : Calls Tryd.prog 23 #[.int .u8 211, .int .i64 reg, .bool m3] w fun e w' => e = .returned (fstL (firstF 211 reg m3)) ∧ Below w.heap.size w w' := by
  obtain ⟨x, hx⟩ : ∃ x, byF 211 reg shfs 4 [69, 99] = x := ⟨_, rfl⟩
  have HF := Lib.hid (show firstF 211 reg m3 = x by rw [← hx]; rfl)
  have HX := Lib.hid hx
  clear hx
  go_enter Tryd.func23, Tryd.ntmps23
  go_wp2_with (first | (go_at_call 42; refine (size4_any _ (by first | decide | omega) (by first | decide | omega) _).mono ?_; rintro e w' ⟨rfl, rfl⟩) | (go_at_call 46; refine (shifts_any _).mono ?_; rintro e w' ⟨rfl, rfl⟩) | (go_at_call 45; refine (by_new 211 reg 4 shfs [69, 99] _ (by decide) (by decide) r0 r1 (by decide) x HX _ _ _ _ _ (by simp) rfl rfl rfl).mono ?_; rintro e w1 ⟨rfl, B1⟩; have HB := Lib.hid (below_step (below_last (below_last (Below.refl _ _) _) _) B1); obtain ⟨q0, q1, q2, q3, q4, qf⟩ := five_kept (five_kept1 B1); clear B1))
  refine bodyPost_ret (v := .tuple #[.agg #[.int .i64 x.1.op, .int .i64 x.1.cond, .int .i64 x.1.size, .string ⟨x.1.how.toArray⟩, .int .i64 x.1.c], .bool x.2.1, .bool x.2.2]) (by simp [results, Tryd.results23, go_sem, q0, q1, q2, q3, q4]) rfl ⟨by rw [HF.out]; rfl, ?_⟩
  exact below5 HB.out _ (Nat.le_refl _)
end
section
attribute [local go_sem] isSome_setCell
set_option maxRecDepth 100000
set_option maxHeartbeats 4000000
theorem first_246z (m3 : Bool) (w : World) : Calls Tryd.prog 23 #[.int .u8 246, .int .i64 0, .bool m3] w fun e w' => e = .returned (fstL (firstF 246 0 m3)) ∧ Below w.heap.size w w' := by
  go_enter Tryd.func23, Tryd.ntmps23
  go_wp2_with (first | (go_at_call 42; refine (size4_any _ (by first | decide | omega) (by first | decide | omega) _).mono ?_; rintro e w' ⟨rfl, rfl⟩) | (go_at_call 43; refine (is_any _ _ _ _ (by first | decide | omega) (by first | decide | omega) _).mono ?_; rintro e w1 ⟨rfl, B1⟩; have HB := Lib.hid (below_step (below_last (Below.refl _ _) _) B1); obtain ⟨q1, hz⟩ := bcell B1; clear B1))
  refine bodyPost_ret (v := fstL (firstF 246 0 m3)) (by simp [results, Tryd.results23, go_sem, q1, fstL, firstF, isF]) rfl ⟨rfl, ?_⟩
  exact below5 HB.out _ (Nat.le_refl _)
theorem first_246b (reg : Int) (m3 : Bool) (r0 : -1 ≤ reg) (r1 : reg < 8) (rz : reg ≠ 0) (w : World) : Calls Tryd.prog 23 #[.int .u8 246, .int .i64 reg, .bool m3] w fun e w' => e = .returned (fstL (firstF 246 reg m3)) ∧ Below w.heap.size w w' := by
  obtain ⟨x, hx⟩ : ∃ x, byF 246 reg [0, 0, 10, 11] 1 [69] = x := ⟨_, rfl⟩
  have HF := Lib.hid (show firstF 246 reg m3 = x by rw [← hx]; show (if reg = 0 then _ else _) = _; rw [if_neg rz])
  have HX := Lib.hid hx
  have hz0 : (reg == 0) = false := by rw [beq_eq_false_iff_ne]; exact rz
  clear hx rz
  go_enter Tryd.func23, Tryd.ntmps23
  go_wp2_with (first | (go_at_call 42; refine (size4_any _ (by first | decide | omega) (by first | decide | omega) _).mono ?_; rintro e w' ⟨rfl, rfl⟩) | (go_at_call 45; refine (by_new 246 reg 1 [0, 0, 10, 11] [69] _ (by decide) (by decide) r0 r1 (by decide) x HX _ _ _ _ _ (by simp) rfl rfl rfl).mono ?_; rintro e w1 ⟨rfl, B1⟩; have HB := Lib.hid (below_step (below_last (below_last (Below.refl _ _) _) _) B1); obtain ⟨q0, q1, q2, q3, q4, qf⟩ := five_kept (five_kept1 B1); clear B1))
  refine bodyPost_ret (v := .tuple #[.agg #[.int .i64 x.1.op, .int .i64 x.1.cond, .int .i64 x.1.size, .string ⟨x.1.how.toArray⟩, .int .i64 x.1.c], .bool x.2.1, .bool x.2.2]) (by simp [results, Tryd.results23, go_sem, q0, q1, q2, q3, q4]) rfl ⟨by rw [HF.out]; rfl, ?_⟩
  exact below5 HB.out _ (Nat.le_refl _)
theorem first_247z (m3 : Bool) (w : World) : Calls Tryd.prog 23 #[.int .u8 247, .int .i64 0, .bool m3] w fun e w' => e = .returned (fstL (firstF 247 0 m3)) ∧ Below w.heap.size w w' := by
  go_enter Tryd.func23, Tryd.ntmps23
  go_wp2_with (first | (go_at_call 42; refine (size4_any _ (by first | decide | omega) (by first | decide | omega) _).mono ?_; rintro e w' ⟨rfl, rfl⟩) | (go_at_call 43; refine (is_any _ _ _ _ (by first | decide | omega) (by first | decide | omega) _).mono ?_; rintro e w1 ⟨rfl, B1⟩; have HB := Lib.hid (below_step (below_last (Below.refl _ _) _) B1); obtain ⟨q1, hz⟩ := bcell B1; clear B1))
  refine bodyPost_ret (v := fstL (firstF 247 0 m3)) (by simp [results, Tryd.results23, go_sem, q1, fstL, firstF, isF]) rfl ⟨rfl, ?_⟩
  exact below5 HB.out _ (Nat.le_refl _)
theorem first_247b (reg : Int) (m3 : Bool) (r0 : -1 ≤ reg) (r1 : reg < 8) (rz : reg ≠ 0) (w : World) : Calls Tryd.prog 23 #[.int .u8 247, .int .i64 reg, .bool m3] w fun e w' => e = .returned (fstL (firstF 247 reg m3)) ∧ Below w.heap.size w w' := by
  obtain ⟨x, hx⟩ : ∃ x, byF 247 reg [0, 0, 10, 11, 12, 13, 14, 15] 4 [69] = x := ⟨_, rfl⟩
  have HF := Lib.hid (show firstF 247 reg m3 = x by rw [← hx]; show (if reg = 0 then _ else _) = _; rw [if_neg rz])
  have HX := Lib.hid hx
  have hz0 : (reg == 0) = false := by rw [beq_eq_false_iff_ne]; exact rz
  clear hx rz
  go_enter Tryd.func23, Tryd.ntmps23
  go_wp2_with (first | (go_at_call 42; refine (size4_any _ (by first | decide | omega) (by first | decide | omega) _).mono ?_; rintro e w' ⟨rfl, rfl⟩) | (go_at_call 45; refine (by_new 247 reg 4 [0, 0, 10, 11, 12, 13, 14, 15] [69] _ (by decide) (by decide) r0 r1 (by decide) x HX _ _ _ _ _ (by simp) rfl rfl rfl).mono ?_; rintro e w1 ⟨rfl, B1⟩; have HB := Lib.hid (below_step (below_last (below_last (Below.refl _ _) _) _) B1); obtain ⟨q0, q1, q2, q3, q4, qf⟩ := five_kept (five_kept1 B1); clear B1))
  refine bodyPost_ret (v := .tuple #[.agg #[.int .i64 x.1.op, .int .i64 x.1.cond, .int .i64 x.1.size, .string ⟨x.1.how.toArray⟩, .int .i64 x.1.c], .bool x.2.1, .bool x.2.2]) (by simp [results, Tryd.results23, go_sem, q0, q1, q2, q3, q4]) rfl ⟨by rw [HF.out]; rfl, ?_⟩
  exact below5 HB.out _ (Nat.le_refl _)
theorem first_105 (reg : Int) (m3 : Bool) (w : World) : Calls Tryd.prog 23 #[.int .u8 105, .int .i64 reg, .bool m3] w fun e w' => e = .returned (fstL (firstF 105 reg m3)) ∧ Below w.heap.size w w' := by
  have hmm := @run_makeMap Tryd.prog
  have hm0 : (Instr.mapUpdate 74 (.map (some (w.heap.size + 1))) (.int .u8 105) (.string ⟨#[71, 69, 76]⟩)).run Tryd.prog ((w.alloc (.cells #[.int .i64 0, .int .i64 0, .int .i64 0, .string ⟨#[]⟩, .int .i64 0] 43)).alloc (.map #[] 0)) = .ok () ((w.alloc (.cells #[.int .i64 0, .int .i64 0, .int .i64 0, .string ⟨#[]⟩, .int .i64 0] 43)).alloc (.map #[{ key := .int .u8 105, val := .string ⟨#[71, 69, 76]⟩, born := 0 }] 1)) := litmap_put _ _ (by simp) _ 5 9 .u8 #[] 0 105 _ Tryd.underlying74 Tryd.underlying5 rfl
  have hm1 : (Instr.mapUpdate 74 (.map (some (w.heap.size + 1))) (.int .u8 107) (.string ⟨#[71, 69, 66]⟩)).run Tryd.prog ((w.alloc (.cells #[.int .i64 0, .int .i64 0, .int .i64 0, .string ⟨#[]⟩, .int .i64 0] 43)).alloc (.map #[{ key := .int .u8 105, val := .string ⟨#[71, 69, 76]⟩, born := 0 }] 1)) = .ok () ((w.alloc (.cells #[.int .i64 0, .int .i64 0, .int .i64 0, .string ⟨#[]⟩, .int .i64 0] 43)).alloc (.map #[{ key := .int .u8 105, val := .string ⟨#[71, 69, 76]⟩, born := 0 }, { key := .int .u8 107, val := .string ⟨#[71, 69, 66]⟩, born := 1 }] 2)) := litmap_put _ _ (by simp) _ 5 9 .u8 #[{ key := .int .u8 105, val := .string ⟨#[71, 69, 76]⟩, born := 0 }] 1 107 _ Tryd.underlying74 Tryd.underlying5 rfl
  have hmg : (Instr.lookup 74 (.map (some (w.heap.size + 1))) (.int .u8 105) false).run Tryd.prog ((w.alloc (.cells #[.int .i64 0, .int .i64 0, .int .i64 0, .string ⟨#[]⟩, .int .i64 0] 43)).alloc (.map #[{ key := .int .u8 105, val := .string ⟨#[71, 69, 76]⟩, born := 0 }, { key := .int .u8 107, val := .string ⟨#[71, 69, 66]⟩, born := 1 }] 2)) = .ok (.string ⟨#[71, 69, 76]⟩) ((w.alloc (.cells #[.int .i64 0, .int .i64 0, .int .i64 0, .string ⟨#[]⟩, .int .i64 0] 43)).alloc (.map #[{ key := .int .u8 105, val := .string ⟨#[71, 69, 76]⟩, born := 0 }, { key := .int .u8 107, val := .string ⟨#[71, 69, 66]⟩, born := 1 }] 2)) := litmap_get _ _ (by simp) _ 5 9 .u8 #[{ key := .int .u8 105, val := .string ⟨#[71, 69, 76]⟩, born := 0 }, { key := .int .u8 107, val := .string ⟨#[71, 69, 66]⟩, born := 1 }] 2 105 _ 0 Tryd.underlying74 Tryd.underlying5 rfl
  go_enter Tryd.func23, Tryd.ntmps23
  go_wp2_with (first | (go_at_call 42; refine (size4_any _ (by first | decide | omega) (by first | decide | omega) _).mono ?_; rintro e w' ⟨rfl, rfl⟩) | (go_at_call 43; refine (is_any _ _ _ _ (by decide) (by decide) _).mono ?_; rintro e w1 ⟨rfl, B1⟩; have HB := Lib.hid (below_step (below_last (below_last (Below.refl _ _) _) _) B1); obtain ⟨q0, q1, q2, q3, q4, qf⟩ := five_kept (five_kept1 B1); have hz1 := B1.size; (try simp [Nat.add_one_le_iff] at hz1); (have hz0 : w.heap.size < w1.heap.size := by omega); clear B1))
  refine bodyPost_ret (v := .tuple #[.agg #[.int .i64 25, .int .i64 1, .int .i64 4, .string ⟨([71, 69, 76] : List UInt8).toArray⟩, .int .i64 1], .bool true, .bool false]) (by simp [results, Tryd.results23, go_sem, q0, q1, q2, q3, q4, hz0]) rfl ⟨by rfl, ?_⟩
  exact below_last (below5 HB.out _ (Nat.le_refl _)) _
theorem first_107 (reg : Int) (m3 : Bool) (w : World) : Calls Tryd.prog 23 #[.int .u8 107, .int .i64 reg, .bool m3] w fun e w' => e = .returned (fstL (firstF 107 reg m3)) ∧ Below w.heap.size w w' := by
  have hmm := @run_makeMap Tryd.prog
  have hm0 : (Instr.mapUpdate 74 (.map (some (w.heap.size + 1))) (.int .u8 105) (.string ⟨#[71, 69, 76]⟩)).run Tryd.prog ((w.alloc (.cells #[.int .i64 0, .int .i64 0, .int .i64 0, .string ⟨#[]⟩, .int .i64 0] 43)).alloc (.map #[] 0)) = .ok () ((w.alloc (.cells #[.int .i64 0, .int .i64 0, .int .i64 0, .string ⟨#[]⟩, .int .i64 0] 43)).alloc (.map #[{ key := .int .u8 105, val := .string ⟨#[71, 69, 76]⟩, born := 0 }] 1)) := litmap_put _ _ (by simp) _ 5 9 .u8 #[] 0 105 _ Tryd.underlying74 Tryd.underlying5 rfl
  have hm1 : (Instr.mapUpdate 74 (.map (some (w.heap.size + 1))) (.int .u8 107) (.string ⟨#[71, 69, 66]⟩)).run Tryd.prog ((w.alloc (.cells #[.int .i64 0, .int .i64 0, .int .i64 0, .string ⟨#[]⟩, .int .i64 0] 43)).alloc (.map #[{ key := .int .u8 105, val := .string ⟨#[71, 69, 76]⟩, born := 0 }] 1)) = .ok () ((w.alloc (.cells #[.int .i64 0, .int .i64 0, .int .i64 0, .string ⟨#[]⟩, .int .i64 0] 43)).alloc (.map #[{ key := .int .u8 105, val := .string ⟨#[71, 69, 76]⟩, born := 0 }, { key := .int .u8 107, val := .string ⟨#[71, 69, 66]⟩, born := 1 }] 2)) := litmap_put _ _ (by simp) _ 5 9 .u8 #[{ key := .int .u8 105, val := .string ⟨#[71, 69, 76]⟩, born := 0 }] 1 107 _ Tryd.underlying74 Tryd.underlying5 rfl
  have hmg : (Instr.lookup 74 (.map (some (w.heap.size + 1))) (.int .u8 107) false).run Tryd.prog ((w.alloc (.cells #[.int .i64 0, .int .i64 0, .int .i64 0, .string ⟨#[]⟩, .int .i64 0] 43)).alloc (.map #[{ key := .int .u8 105, val := .string ⟨#[71, 69, 76]⟩, born := 0 }, { key := .int .u8 107, val := .string ⟨#[71, 69, 66]⟩, born := 1 }] 2)) = .ok (.string ⟨#[71, 69, 66]⟩) ((w.alloc (.cells #[.int .i64 0, .int .i64 0, .int .i64 0, .string ⟨#[]⟩, .int .i64 0] 43)).alloc (.map #[{ key := .int .u8 105, val := .string ⟨#[71, 69, 76]⟩, born := 0 }, { key := .int .u8 107, val := .string ⟨#[71, 69, 66]⟩, born := 1 }] 2)) := litmap_get _ _ (by simp) _ 5 9 .u8 #[{ key := .int .u8 105, val := .string ⟨#[71, 69, 76]⟩, born := 0 }, { key := .int .u8 107, val := .string ⟨#[71, 69, 66]⟩, born := 1 }] 2 107 _ 1 Tryd.underlying74 Tryd.underlying5 rfl
  go_enter Tryd.func23, Tryd.ntmps23
  go_wp2_with (first | (go_at_call 42; refine (size4_any _ (by first | decide | omega) (by first | decide | omega) _).mono ?_; rintro e w' ⟨rfl, rfl⟩) | (go_at_call 43; refine (is_any _ _ _ _ (by decide) (by decide) _).mono ?_; rintro e w1 ⟨rfl, B1⟩; have HB := Lib.hid (below_step (below_last (below_last (Below.refl _ _) _) _) B1); obtain ⟨q0, q1, q2, q3, q4, qf⟩ := five_kept (five_kept1 B1); have hz1 := B1.size; (try simp [Nat.add_one_le_iff] at hz1); (have hz0 : w.heap.size < w1.heap.size := by omega); clear B1))
  refine bodyPost_ret (v := .tuple #[.agg #[.int .i64 25, .int .i64 1, .int .i64 4, .string ⟨([71, 69, 66] : List UInt8).toArray⟩, .int .i64 3], .bool true, .bool false]) (by simp [results, Tryd.results23, go_sem, q0, q1, q2, q3, q4, hz0]) rfl ⟨by rfl, ?_⟩
  exact below_last (below5 HB.out _ (Nat.le_refl _)) _
theorem first_128n (reg : Int) (m3 : Bool) (r0 : reg < 0) (w : World) : Calls Tryd.prog 23 #[.int .u8 128, .int .i64 reg, .bool m3] w fun e w' => e = .returned (fstL (firstF 128 reg m3)) ∧ Below w.heap.size w w' := by
  have HX := Lib.hid (show firstF 128 reg m3 = (nilF, false, true) by show (if reg < 0 then _ else _) = _; rw [if_pos r0])
  have hd : decide (reg < 0) = true := decide_eq_true r0
  go_enter Tryd.func23, Tryd.ntmps23
  go_wp2_with (go_at_call 42; refine (size4_any _ (by first | decide | omega) (by first | decide | omega) _).mono ?_; rintro e w' ⟨rfl, rfl⟩)
  go_returns
  exact ⟨by rw [HX.out]; rfl, below_last (Below.refl _ _) _⟩
theorem first_129n (reg : Int) (m3 : Bool) (r0 : reg < 0) (w : World) : Calls Tryd.prog 23 #[.int .u8 129, .int .i64 reg, .bool m3] w fun e w' => e = .returned (fstL (firstF 129 reg m3)) ∧ Below w.heap.size w w' := by
  have HX := Lib.hid (show firstF 129 reg m3 = (nilF, false, true) by show (if reg < 0 then _ else _) = _; rw [if_pos r0])
  have hd : decide (reg < 0) = true := decide_eq_true r0
  go_enter Tryd.func23, Tryd.ntmps23
  go_wp2_with (go_at_call 42; refine (size4_any _ (by first | decide | omega) (by first | decide | omega) _).mono ?_; rintro e w' ⟨rfl, rfl⟩)
  go_returns
  exact ⟨by rw [HX.out]; rfl, below_last (Below.refl _ _) _⟩
theorem first_131n (reg : Int) (m3 : Bool) (r0 : reg < 0) (w : World) : Calls Tryd.prog 23 #[.int .u8 131, .int .i64 reg, .bool m3] w fun e w' => e = .returned (fstL (firstF 131 reg m3)) ∧ Below w.heap.size w w' := by
  have HX := Lib.hid (show firstF 131 reg m3 = (nilF, false, true) by show (if reg < 0 then _ else _) = _; rw [if_pos r0])
  have hd : decide (reg < 0) = true := decide_eq_true r0
  go_enter Tryd.func23, Tryd.ntmps23
  go_wp2_with (go_at_call 42; refine (size4_any _ (by first | decide | omega) (by first | decide | omega) _).mono ?_; rintro e w' ⟨rfl, rfl⟩)
  go_returns
  exact ⟨by rw [HX.out]; rfl, below_last (Below.refl _ _) _⟩
end
end Go.Proofs.YtgihiddiceinhaaDoor
