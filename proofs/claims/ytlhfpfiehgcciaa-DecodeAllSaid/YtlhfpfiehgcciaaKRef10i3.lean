/- The document's table (package salternref9): opcodes of one byte. -/
import Derived.Deep.DeepCutAuto
import Derived.Test.YtlhfpfiehgcciaaKD
namespace Go.Proofs.Ytlhfpfiehgcciaa
open Go.ChangeShapes Go.WideShapes Go.ChangeAt Go.RowKit
attribute [local go_sem] isSome_setCell
set_option maxRecDepth 100000 in
set_option maxHeartbeats 4000000 in
theorem first_246z (m3 : Bool) (w : World) : Calls Try.prog 21 #[.int .u8 246, .int .i64 0, .bool m3] w fun e w' => e = .returned (fstL (firstF 246 0 m3)) ∧ Below w.heap.size w w' := by
  go_enter Try.func21, Try.ntmps21
  go_wp2_with (first | (go_at_call 31; refine (size4_any _ (by first | decide | omega) (by first | decide | omega) _).mono ?_; rintro e w' ⟨rfl, rfl⟩) | (go_at_call 32; refine (is_any _ _ _ _ (by first | decide | omega) (by first | decide | omega) _).mono ?_; rintro e w1 ⟨rfl, B1⟩; have HB := Lib.hid (below_step (below_last (Below.refl _ _) _) B1); obtain ⟨q1, hz⟩ := bcell B1; clear B1))
  refine bodyPost_ret (v := fstL (firstF 246 0 m3)) (by simp [results, Try.results21, go_sem, q1, fstL, firstF, isF]) rfl ⟨rfl, ?_⟩
  exact below5 HB.out _ (Nat.le_refl _)
set_option maxRecDepth 100000 in
set_option maxHeartbeats 4000000 in
theorem first_246b (reg : Int) (m3 : Bool) (r0 : -1 ≤ reg) (r1 : reg < 8) (rz : reg ≠ 0) (w : World) : Calls Try.prog 21 #[.int .u8 246, .int .i64 reg, .bool m3] w fun e w' => e = .returned (fstL (firstF 246 reg m3)) ∧ Below w.heap.size w w' := by
  obtain ⟨x, hx⟩ : ∃ x, byF 246 reg [0, 0, 10, 11] 1 [69] = x := ⟨_, rfl⟩
  have HF := Lib.hid (show firstF 246 reg m3 = x by rw [← hx]; show (if reg = 0 then _ else _) = _; rw [if_neg rz])
  have HX := Lib.hid hx
  have hz0 : (reg == 0) = false := by rw [beq_eq_false_iff_ne]; exact rz
  clear hx rz
  go_enter Try.func21, Try.ntmps21
  go_wp2_with (first | (go_at_call 31; refine (size4_any _ (by first | decide | omega) (by first | decide | omega) _).mono ?_; rintro e w' ⟨rfl, rfl⟩) | (go_at_call 34; refine (by_new 246 reg 1 [0, 0, 10, 11] [69] _ (by decide) (by decide) r0 r1 (by decide) x HX _ _ _ _ _ (by simp) rfl rfl rfl).mono ?_; rintro e w1 ⟨rfl, B1⟩; have HB := Lib.hid (below_step (below_last (below_last (Below.refl _ _) _) _) B1); obtain ⟨q0, q1, q2, q3, q4, qf⟩ := five_kept (five_kept1 B1); clear B1))
  refine bodyPost_ret (v := .tuple #[.agg #[.int .i64 x.1.op, .int .i64 x.1.cond, .int .i64 x.1.size, .string ⟨x.1.how.toArray⟩, .int .i64 x.1.c], .bool x.2.1, .bool x.2.2]) (by simp [results, Try.results21, go_sem, q0, q1, q2, q3, q4]) rfl ⟨by rw [HF.out]; rfl, ?_⟩
  exact below5 HB.out _ (Nat.le_refl _)

set_option maxRecDepth 100000 in
set_option maxHeartbeats 4000000 in
theorem first_247z (m3 : Bool) (w : World) : Calls Try.prog 21 #[.int .u8 247, .int .i64 0, .bool m3] w fun e w' => e = .returned (fstL (firstF 247 0 m3)) ∧ Below w.heap.size w w' := by
  go_enter Try.func21, Try.ntmps21
  go_wp2_with (first | (go_at_call 31; refine (size4_any _ (by first | decide | omega) (by first | decide | omega) _).mono ?_; rintro e w' ⟨rfl, rfl⟩) | (go_at_call 32; refine (is_any _ _ _ _ (by first | decide | omega) (by first | decide | omega) _).mono ?_; rintro e w1 ⟨rfl, B1⟩; have HB := Lib.hid (below_step (below_last (Below.refl _ _) _) B1); obtain ⟨q1, hz⟩ := bcell B1; clear B1))
  refine bodyPost_ret (v := fstL (firstF 247 0 m3)) (by simp [results, Try.results21, go_sem, q1, fstL, firstF, isF]) rfl ⟨rfl, ?_⟩
  exact below5 HB.out _ (Nat.le_refl _)
set_option maxRecDepth 100000 in
set_option maxHeartbeats 4000000 in
theorem first_247b (reg : Int) (m3 : Bool) (r0 : -1 ≤ reg) (r1 : reg < 8) (rz : reg ≠ 0) (w : World) : Calls Try.prog 21 #[.int .u8 247, .int .i64 reg, .bool m3] w fun e w' => e = .returned (fstL (firstF 247 reg m3)) ∧ Below w.heap.size w w' := by
  obtain ⟨x, hx⟩ : ∃ x, byF 247 reg [0, 0, 10, 11, 12, 13, 14, 15] 4 [69] = x := ⟨_, rfl⟩
  have HF := Lib.hid (show firstF 247 reg m3 = x by rw [← hx]; show (if reg = 0 then _ else _) = _; rw [if_neg rz])
  have HX := Lib.hid hx
  have hz0 : (reg == 0) = false := by rw [beq_eq_false_iff_ne]; exact rz
  clear hx rz
  go_enter Try.func21, Try.ntmps21
  go_wp2_with (first | (go_at_call 31; refine (size4_any _ (by first | decide | omega) (by first | decide | omega) _).mono ?_; rintro e w' ⟨rfl, rfl⟩) | (go_at_call 34; refine (by_new 247 reg 4 [0, 0, 10, 11, 12, 13, 14, 15] [69] _ (by decide) (by decide) r0 r1 (by decide) x HX _ _ _ _ _ (by simp) rfl rfl rfl).mono ?_; rintro e w1 ⟨rfl, B1⟩; have HB := Lib.hid (below_step (below_last (below_last (Below.refl _ _) _) _) B1); obtain ⟨q0, q1, q2, q3, q4, qf⟩ := five_kept (five_kept1 B1); clear B1))
  refine bodyPost_ret (v := .tuple #[.agg #[.int .i64 x.1.op, .int .i64 x.1.cond, .int .i64 x.1.size, .string ⟨x.1.how.toArray⟩, .int .i64 x.1.c], .bool x.2.1, .bool x.2.2]) (by simp [results, Try.results21, go_sem, q0, q1, q2, q3, q4]) rfl ⟨by rw [HF.out]; rfl, ?_⟩
  exact below5 HB.out _ (Nat.le_refl _)

set_option maxRecDepth 100000 in
set_option maxHeartbeats 4000000 in
theorem first_105 (reg : Int) (m3 : Bool) (w : World) : Calls Try.prog 21 #[.int .u8 105, .int .i64 reg, .bool m3] w fun e w' => e = .returned (fstL (firstF 105 reg m3)) ∧ Below w.heap.size w w' := by
  have hmm := @run_makeMap Try.prog
  have hm0 : (Instr.mapUpdate 81 (.map (some (w.heap.size + 1))) (.int .u8 105) (.string ⟨#[71, 69, 76]⟩)).run Try.prog ((w.alloc (.cells #[.int .i64 0, .int .i64 0, .int .i64 0, .string ⟨#[]⟩, .int .i64 0] 55)).alloc (.map #[] 0)) = .ok () ((w.alloc (.cells #[.int .i64 0, .int .i64 0, .int .i64 0, .string ⟨#[]⟩, .int .i64 0] 55)).alloc (.map #[{ key := .int .u8 105, val := .string ⟨#[71, 69, 76]⟩, born := 0 }] 1)) := litmap_put _ _ (by simp) _ 5 9 .u8 #[] 0 105 _ Try.underlying81 Try.underlying5 rfl
  have hm1 : (Instr.mapUpdate 81 (.map (some (w.heap.size + 1))) (.int .u8 107) (.string ⟨#[71, 69, 66]⟩)).run Try.prog ((w.alloc (.cells #[.int .i64 0, .int .i64 0, .int .i64 0, .string ⟨#[]⟩, .int .i64 0] 55)).alloc (.map #[{ key := .int .u8 105, val := .string ⟨#[71, 69, 76]⟩, born := 0 }] 1)) = .ok () ((w.alloc (.cells #[.int .i64 0, .int .i64 0, .int .i64 0, .string ⟨#[]⟩, .int .i64 0] 55)).alloc (.map #[{ key := .int .u8 105, val := .string ⟨#[71, 69, 76]⟩, born := 0 }, { key := .int .u8 107, val := .string ⟨#[71, 69, 66]⟩, born := 1 }] 2)) := litmap_put _ _ (by simp) _ 5 9 .u8 #[{ key := .int .u8 105, val := .string ⟨#[71, 69, 76]⟩, born := 0 }] 1 107 _ Try.underlying81 Try.underlying5 rfl
  have hmg : (Instr.lookup 81 (.map (some (w.heap.size + 1))) (.int .u8 105) false).run Try.prog ((w.alloc (.cells #[.int .i64 0, .int .i64 0, .int .i64 0, .string ⟨#[]⟩, .int .i64 0] 55)).alloc (.map #[{ key := .int .u8 105, val := .string ⟨#[71, 69, 76]⟩, born := 0 }, { key := .int .u8 107, val := .string ⟨#[71, 69, 66]⟩, born := 1 }] 2)) = .ok (.string ⟨#[71, 69, 76]⟩) ((w.alloc (.cells #[.int .i64 0, .int .i64 0, .int .i64 0, .string ⟨#[]⟩, .int .i64 0] 55)).alloc (.map #[{ key := .int .u8 105, val := .string ⟨#[71, 69, 76]⟩, born := 0 }, { key := .int .u8 107, val := .string ⟨#[71, 69, 66]⟩, born := 1 }] 2)) := litmap_get _ _ (by simp) _ 5 9 .u8 #[{ key := .int .u8 105, val := .string ⟨#[71, 69, 76]⟩, born := 0 }, { key := .int .u8 107, val := .string ⟨#[71, 69, 66]⟩, born := 1 }] 2 105 _ 0 Try.underlying81 Try.underlying5 rfl
  go_enter Try.func21, Try.ntmps21
  go_wp2_with (first | (go_at_call 31; refine (size4_any _ (by first | decide | omega) (by first | decide | omega) _).mono ?_; rintro e w' ⟨rfl, rfl⟩) | (go_at_call 32; refine (is_any _ _ _ _ (by decide) (by decide) _).mono ?_; rintro e w1 ⟨rfl, B1⟩; have HB := Lib.hid (below_step (below_last (below_last (Below.refl _ _) _) _) B1); obtain ⟨q0, q1, q2, q3, q4, qf⟩ := five_kept (five_kept1 B1); have hz1 := B1.size; (try simp [Nat.add_one_le_iff] at hz1); (have hz0 : w.heap.size < w1.heap.size := by omega); clear B1))
  refine bodyPost_ret (v := .tuple #[.agg #[.int .i64 25, .int .i64 1, .int .i64 4, .string ⟨([71, 69, 76] : List UInt8).toArray⟩, .int .i64 1], .bool true, .bool false]) (by simp [results, Try.results21, go_sem, q0, q1, q2, q3, q4, hz0]) rfl ⟨by rfl, ?_⟩
  exact below_last (below5 HB.out _ (Nat.le_refl _)) _

set_option maxRecDepth 100000 in
set_option maxHeartbeats 4000000 in
theorem first_107 (reg : Int) (m3 : Bool) (w : World) : Calls Try.prog 21 #[.int .u8 107, .int .i64 reg, .bool m3] w fun e w' => e = .returned (fstL (firstF 107 reg m3)) ∧ Below w.heap.size w w' := by
  have hmm := @run_makeMap Try.prog
  have hm0 : (Instr.mapUpdate 81 (.map (some (w.heap.size + 1))) (.int .u8 105) (.string ⟨#[71, 69, 76]⟩)).run Try.prog ((w.alloc (.cells #[.int .i64 0, .int .i64 0, .int .i64 0, .string ⟨#[]⟩, .int .i64 0] 55)).alloc (.map #[] 0)) = .ok () ((w.alloc (.cells #[.int .i64 0, .int .i64 0, .int .i64 0, .string ⟨#[]⟩, .int .i64 0] 55)).alloc (.map #[{ key := .int .u8 105, val := .string ⟨#[71, 69, 76]⟩, born := 0 }] 1)) := litmap_put _ _ (by simp) _ 5 9 .u8 #[] 0 105 _ Try.underlying81 Try.underlying5 rfl
  have hm1 : (Instr.mapUpdate 81 (.map (some (w.heap.size + 1))) (.int .u8 107) (.string ⟨#[71, 69, 66]⟩)).run Try.prog ((w.alloc (.cells #[.int .i64 0, .int .i64 0, .int .i64 0, .string ⟨#[]⟩, .int .i64 0] 55)).alloc (.map #[{ key := .int .u8 105, val := .string ⟨#[71, 69, 76]⟩, born := 0 }] 1)) = .ok () ((w.alloc (.cells #[.int .i64 0, .int .i64 0, .int .i64 0, .string ⟨#[]⟩, .int .i64 0] 55)).alloc (.map #[{ key := .int .u8 105, val := .string ⟨#[71, 69, 76]⟩, born := 0 }, { key := .int .u8 107, val := .string ⟨#[71, 69, 66]⟩, born := 1 }] 2)) := litmap_put _ _ (by simp) _ 5 9 .u8 #[{ key := .int .u8 105, val := .string ⟨#[71, 69, 76]⟩, born := 0 }] 1 107 _ Try.underlying81 Try.underlying5 rfl
  have hmg : (Instr.lookup 81 (.map (some (w.heap.size + 1))) (.int .u8 107) false).run Try.prog ((w.alloc (.cells #[.int .i64 0, .int .i64 0, .int .i64 0, .string ⟨#[]⟩, .int .i64 0] 55)).alloc (.map #[{ key := .int .u8 105, val := .string ⟨#[71, 69, 76]⟩, born := 0 }, { key := .int .u8 107, val := .string ⟨#[71, 69, 66]⟩, born := 1 }] 2)) = .ok (.string ⟨#[71, 69, 66]⟩) ((w.alloc (.cells #[.int .i64 0, .int .i64 0, .int .i64 0, .string ⟨#[]⟩, .int .i64 0] 55)).alloc (.map #[{ key := .int .u8 105, val := .string ⟨#[71, 69, 76]⟩, born := 0 }, { key := .int .u8 107, val := .string ⟨#[71, 69, 66]⟩, born := 1 }] 2)) := litmap_get _ _ (by simp) _ 5 9 .u8 #[{ key := .int .u8 105, val := .string ⟨#[71, 69, 76]⟩, born := 0 }, { key := .int .u8 107, val := .string ⟨#[71, 69, 66]⟩, born := 1 }] 2 107 _ 1 Try.underlying81 Try.underlying5 rfl
  go_enter Try.func21, Try.ntmps21
  go_wp2_with (first | (go_at_call 31; refine (size4_any _ (by first | decide | omega) (by first | decide | omega) _).mono ?_; rintro e w' ⟨rfl, rfl⟩) | (go_at_call 32; refine (is_any _ _ _ _ (by decide) (by decide) _).mono ?_; rintro e w1 ⟨rfl, B1⟩; have HB := Lib.hid (below_step (below_last (below_last (Below.refl _ _) _) _) B1); obtain ⟨q0, q1, q2, q3, q4, qf⟩ := five_kept (five_kept1 B1); have hz1 := B1.size; (try simp [Nat.add_one_le_iff] at hz1); (have hz0 : w.heap.size < w1.heap.size := by omega); clear B1))
  refine bodyPost_ret (v := .tuple #[.agg #[.int .i64 25, .int .i64 1, .int .i64 4, .string ⟨([71, 69, 66] : List UInt8).toArray⟩, .int .i64 3], .bool true, .bool false]) (by simp [results, Try.results21, go_sem, q0, q1, q2, q3, q4, hz0]) rfl ⟨by rfl, ?_⟩
  exact below_last (below5 HB.out _ (Nat.le_refl _)) _

set_option maxRecDepth 100000 in
set_option maxHeartbeats 4000000 in
theorem first_128n (reg : Int) (m3 : Bool) (r0 : reg < 0) (w : World) : Calls Try.prog 21 #[.int .u8 128, .int .i64 reg, .bool m3] w fun e w' => e = .returned (fstL (firstF 128 reg m3)) ∧ Below w.heap.size w w' := by
  have HX := Lib.hid (show firstF 128 reg m3 = (nilF, false, true) by show (if reg < 0 then _ else _) = _; rw [if_pos r0])
  have hd : decide (reg < 0) = true := decide_eq_true r0
  go_enter Try.func21, Try.ntmps21
  go_wp2_with (go_at_call 31; refine (size4_any _ (by first | decide | omega) (by first | decide | omega) _).mono ?_; rintro e w' ⟨rfl, rfl⟩)
  go_returns
  exact ⟨by rw [HX.out]; rfl, below_last (Below.refl _ _) _⟩

set_option maxRecDepth 100000 in
set_option maxHeartbeats 4000000 in
theorem first_129n (reg : Int) (m3 : Bool) (r0 : reg < 0) (w : World) : Calls Try.prog 21 #[.int .u8 129, .int .i64 reg, .bool m3] w fun e w' => e = .returned (fstL (firstF 129 reg m3)) ∧ Below w.heap.size w w' := by
  have HX := Lib.hid (show firstF 129 reg m3 = (nilF, false, true) by show (if reg < 0 then _ else _) = _; rw [if_pos r0])
  have hd : decide (reg < 0) = true := decide_eq_true r0
  go_enter Try.func21, Try.ntmps21
  go_wp2_with (go_at_call 31; refine (size4_any _ (by first | decide | omega) (by first | decide | omega) _).mono ?_; rintro e w' ⟨rfl, rfl⟩)
  go_returns
  exact ⟨by rw [HX.out]; rfl, below_last (Below.refl _ _) _⟩

set_option maxRecDepth 100000 in
set_option maxHeartbeats 4000000 in
theorem first_131n (reg : Int) (m3 : Bool) (r0 : reg < 0) (w : World) : Calls Try.prog 21 #[.int .u8 131, .int .i64 reg, .bool m3] w fun e w' => e = .returned (fstL (firstF 131 reg m3)) ∧ Below w.heap.size w w' := by
  have HX := Lib.hid (show firstF 131 reg m3 = (nilF, false, true) by show (if reg < 0 then _ else _) = _; rw [if_pos r0])
  have hd : decide (reg < 0) = true := decide_eq_true r0
  go_enter Try.func21, Try.ntmps21
  go_wp2_with (go_at_call 31; refine (size4_any _ (by first | decide | omega) (by first | decide | omega) _).mono ?_; rintro e w' ⟨rfl, rfl⟩)
  go_returns
  exact ⟨by rw [HX.out]; rfl, below_last (Below.refl _ _) _⟩

end Go.Proofs.Ytlhfpfiehgcciaa
