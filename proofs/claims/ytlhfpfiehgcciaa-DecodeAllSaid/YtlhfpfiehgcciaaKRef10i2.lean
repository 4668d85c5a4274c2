/- The document's table (package salternref9): opcodes of one byte. -/
import Derived.Deep.DeepCutAuto
import Derived.Test.YtlhfpfiehgcciaaKD
namespace Go.Proofs.Ytlhfpfiehgcciaa
open Go.ChangeShapes Go.WideShapes Go.ChangeAt Go.RowKit
attribute [local go_sem] isSome_setCell
set_option maxRecDepth 100000 in
set_option maxHeartbeats 4000000 in
theorem first_143 (reg : Int) (m3 : Bool) (r0 : -1 ≤ reg) (r1 : reg < 8) (w : World) : Calls Try.prog 21 #[.int .u8 143, .int .i64 reg, .bool m3] w fun e w' => e = .returned (fstL (firstF 143 reg m3)) ∧ Below w.heap.size w w' := by
  obtain ⟨x, hx⟩ : ∃ x, byF 143 reg [24] 4 [69] = x := ⟨_, rfl⟩
  have HF := Lib.hid (show firstF 143 reg m3 = x by rw [← hx]; rfl)
  have HX := Lib.hid hx
  clear hx
  go_enter Try.func21, Try.ntmps21
  go_wp2_with (first | (go_at_call 31; refine (size4_any _ (by first | decide | omega) (by first | decide | omega) _).mono ?_; rintro e w' ⟨rfl, rfl⟩) | (go_at_call 34; refine (by_new 143 reg 4 [24] [69] _ (by decide) (by decide) r0 r1 (by decide) x HX _ _ _ _ _ (by simp) rfl rfl rfl).mono ?_; rintro e w1 ⟨rfl, B1⟩; have HB := Lib.hid (below_step (below_last (below_last (Below.refl _ _) _) _) B1); obtain ⟨q0, q1, q2, q3, q4, qf⟩ := five_kept (five_kept1 B1); clear B1))
  refine bodyPost_ret (v := .tuple #[.agg #[.int .i64 x.1.op, .int .i64 x.1.cond, .int .i64 x.1.size, .string ⟨x.1.how.toArray⟩, .int .i64 x.1.c], .bool x.2.1, .bool x.2.2]) (by simp [results, Try.results21, go_sem, q0, q1, q2, q3, q4]) rfl ⟨by rw [HF.out]; rfl, ?_⟩
  exact below5 HB.out _ (Nat.le_refl _)

set_option maxRecDepth 100000 in
set_option maxHeartbeats 4000000 in
theorem first_198 (reg : Int) (m3 : Bool) (r0 : -1 ≤ reg) (r1 : reg < 8) (w : World) : Calls Try.prog 21 #[.int .u8 198, .int .i64 reg, .bool m3] w fun e w' => e = .returned (fstL (firstF 198 reg m3)) ∧ Below w.heap.size w w' := by
  obtain ⟨x, hx⟩ : ∃ x, byF 198 reg [18] 1 [69, 73] = x := ⟨_, rfl⟩
  have HF := Lib.hid (show firstF 198 reg m3 = x by rw [← hx]; rfl)
  have HX := Lib.hid hx
  clear hx
  go_enter Try.func21, Try.ntmps21
  go_wp2_with (first | (go_at_call 31; refine (size4_any _ (by first | decide | omega) (by first | decide | omega) _).mono ?_; rintro e w' ⟨rfl, rfl⟩) | (go_at_call 34; refine (by_new 198 reg 1 [18] [69, 73] _ (by decide) (by decide) r0 r1 (by decide) x HX _ _ _ _ _ (by simp) rfl rfl rfl).mono ?_; rintro e w1 ⟨rfl, B1⟩; have HB := Lib.hid (below_step (below_last (below_last (Below.refl _ _) _) _) B1); obtain ⟨q0, q1, q2, q3, q4, qf⟩ := five_kept (five_kept1 B1); clear B1))
  refine bodyPost_ret (v := .tuple #[.agg #[.int .i64 x.1.op, .int .i64 x.1.cond, .int .i64 x.1.size, .string ⟨x.1.how.toArray⟩, .int .i64 x.1.c], .bool x.2.1, .bool x.2.2]) (by simp [results, Try.results21, go_sem, q0, q1, q2, q3, q4]) rfl ⟨by rw [HF.out]; rfl, ?_⟩
  exact below5 HB.out _ (Nat.le_refl _)

set_option maxRecDepth 100000 in
set_option maxHeartbeats 4000000 in
theorem first_199 (reg : Int) (m3 : Bool) (r0 : -1 ≤ reg) (r1 : reg < 8) (w : World) : Calls Try.prog 21 #[.int .u8 199, .int .i64 reg, .bool m3] w fun e w' => e = .returned (fstL (firstF 199 reg m3)) ∧ Below w.heap.size w w' := by
  obtain ⟨x, hx⟩ : ∃ x, byF 199 reg [18] 4 [69, 73] = x := ⟨_, rfl⟩
  have HF := Lib.hid (show firstF 199 reg m3 = x by rw [← hx]; rfl)
  have HX := Lib.hid hx
  clear hx
  go_enter Try.func21, Try.ntmps21
  go_wp2_with (first | (go_at_call 31; refine (size4_any _ (by first | decide | omega) (by first | decide | omega) _).mono ?_; rintro e w' ⟨rfl, rfl⟩) | (go_at_call 34; refine (by_new 199 reg 4 [18] [69, 73] _ (by decide) (by decide) r0 r1 (by decide) x HX _ _ _ _ _ (by simp) rfl rfl rfl).mono ?_; rintro e w1 ⟨rfl, B1⟩; have HB := Lib.hid (below_step (below_last (below_last (Below.refl _ _) _) _) B1); obtain ⟨q0, q1, q2, q3, q4, qf⟩ := five_kept (five_kept1 B1); clear B1))
  refine bodyPost_ret (v := .tuple #[.agg #[.int .i64 x.1.op, .int .i64 x.1.cond, .int .i64 x.1.size, .string ⟨x.1.how.toArray⟩, .int .i64 x.1.c], .bool x.2.1, .bool x.2.2]) (by simp [results, Try.results21, go_sem, q0, q1, q2, q3, q4]) rfl ⟨by rw [HF.out]; rfl, ?_⟩
  exact below5 HB.out _ (Nat.le_refl _)

set_option maxRecDepth 100000 in
set_option maxHeartbeats 4000000 in
theorem first_254 (reg : Int) (m3 : Bool) (r0 : -1 ≤ reg) (r1 : reg < 8) (w : World) : Calls Try.prog 21 #[.int .u8 254, .int .i64 reg, .bool m3] w fun e w' => e = .returned (fstL (firstF 254 reg m3)) ∧ Below w.heap.size w w' := by
  obtain ⟨x, hx⟩ : ∃ x, byF 254 reg [16, 17] 1 [69] = x := ⟨_, rfl⟩
  have HF := Lib.hid (show firstF 254 reg m3 = x by rw [← hx]; rfl)
  have HX := Lib.hid hx
  clear hx
  go_enter Try.func21, Try.ntmps21
  go_wp2_with (first | (go_at_call 31; refine (size4_any _ (by first | decide | omega) (by first | decide | omega) _).mono ?_; rintro e w' ⟨rfl, rfl⟩) | (go_at_call 34; refine (by_new 254 reg 1 [16, 17] [69] _ (by decide) (by decide) r0 r1 (by decide) x HX _ _ _ _ _ (by simp) rfl rfl rfl).mono ?_; rintro e w1 ⟨rfl, B1⟩; have HB := Lib.hid (below_step (below_last (below_last (Below.refl _ _) _) _) B1); obtain ⟨q0, q1, q2, q3, q4, qf⟩ := five_kept (five_kept1 B1); clear B1))
  refine bodyPost_ret (v := .tuple #[.agg #[.int .i64 x.1.op, .int .i64 x.1.cond, .int .i64 x.1.size, .string ⟨x.1.how.toArray⟩, .int .i64 x.1.c], .bool x.2.1, .bool x.2.2]) (by simp [results, Try.results21, go_sem, q0, q1, q2, q3, q4]) rfl ⟨by rw [HF.out]; rfl, ?_⟩
  exact below5 HB.out _ (Nat.le_refl _)

set_option maxRecDepth 100000 in
set_option maxHeartbeats 4000000 in
theorem first_255 (reg : Int) (m3 : Bool) (r0 : -1 ≤ reg) (r1 : reg < 8) (w : World) : Calls Try.prog 21 #[.int .u8 255, .int .i64 reg, .bool m3] w fun e w' => e = .returned (fstL (firstF 255 reg m3)) ∧ Below w.heap.size w w' := by
  obtain ⟨x, hx⟩ : ∃ x, byF 255 reg [16, 17, 33, 0, 32, 0, 23] 4 [69] = x := ⟨_, rfl⟩
  have HF := Lib.hid (show firstF 255 reg m3 = x by rw [← hx]; rfl)
  have HX := Lib.hid hx
  clear hx
  go_enter Try.func21, Try.ntmps21
  go_wp2_with (first | (go_at_call 31; refine (size4_any _ (by first | decide | omega) (by first | decide | omega) _).mono ?_; rintro e w' ⟨rfl, rfl⟩) | (go_at_call 34; refine (by_new 255 reg 4 [16, 17, 33, 0, 32, 0, 23] [69] _ (by decide) (by decide) r0 r1 (by decide) x HX _ _ _ _ _ (by simp) rfl rfl rfl).mono ?_; rintro e w1 ⟨rfl, B1⟩; have HB := Lib.hid (below_step (below_last (below_last (Below.refl _ _) _) _) B1); obtain ⟨q0, q1, q2, q3, q4, qf⟩ := five_kept (five_kept1 B1); clear B1))
  refine bodyPost_ret (v := .tuple #[.agg #[.int .i64 x.1.op, .int .i64 x.1.cond, .int .i64 x.1.size, .string ⟨x.1.how.toArray⟩, .int .i64 x.1.c], .bool x.2.1, .bool x.2.2]) (by simp [results, Try.results21, go_sem, q0, q1, q2, q3, q4]) rfl ⟨by rw [HF.out]; rfl, ?_⟩
  exact below5 HB.out _ (Nat.le_refl _)

set_option maxRecDepth 100000 in
set_option maxHeartbeats 4000000 in
theorem first_193 (reg : Int) (m3 : Bool) (r0 : -1 ≤ reg) (r1 : reg < 8) (w : World) : Calls Try.prog 21 #[.int .u8 193, .int .i64 reg, .bool m3] w fun e w' => e = .returned (fstL (firstF 193 reg m3)) ∧ Below w.heap.size w w' := by
  obtain ⟨x, hx⟩ : ∃ x, byF 193 reg shfs 4 [69, 98] = x := ⟨_, rfl⟩
  have HF := Lib.hid (show firstF 193 reg m3 = x by rw [← hx]; rfl)
  have HX := Lib.hid hx
  clear hx
  go_enter Try.func21, Try.ntmps21
  go_wp2_with (first | (go_at_call 31; refine (size4_any _ (by first | decide | omega) (by first | decide | omega) _).mono ?_; rintro e w' ⟨rfl, rfl⟩) | (go_at_call 35; refine (shifts_any _).mono ?_; rintro e w' ⟨rfl, rfl⟩) | (go_at_call 34; refine (by_new 193 reg 4 shfs [69, 98] _ (by decide) (by decide) r0 r1 (by decide) x HX _ _ _ _ _ (by simp) rfl rfl rfl).mono ?_; rintro e w1 ⟨rfl, B1⟩; have HB := Lib.hid (below_step (below_last (below_last (Below.refl _ _) _) _) B1); obtain ⟨q0, q1, q2, q3, q4, qf⟩ := five_kept (five_kept1 B1); clear B1))
  refine bodyPost_ret (v := .tuple #[.agg #[.int .i64 x.1.op, .int .i64 x.1.cond, .int .i64 x.1.size, .string ⟨x.1.how.toArray⟩, .int .i64 x.1.c], .bool x.2.1, .bool x.2.2]) (by simp [results, Try.results21, go_sem, q0, q1, q2, q3, q4]) rfl ⟨by rw [HF.out]; rfl, ?_⟩
  exact below5 HB.out _ (Nat.le_refl _)

set_option maxRecDepth 100000 in
set_option maxHeartbeats 4000000 in
theorem first_209 (reg : Int) (m3 : Bool) (r0 : -1 ≤ reg) (r1 : reg < 8) (w : World) : Calls Try.prog 21 #[.int .u8 209, .int .i64 reg, .bool m3] w fun e w' => e = .returned (fstL (firstF 209 reg m3)) ∧ Below w.heap.size w w' := by
  obtain ⟨x, hx⟩ : ∃ x, byF 209 reg shfs 4 [69, 49] = x := ⟨_, rfl⟩
  have HF := Lib.hid (show firstF 209 reg m3 = x by rw [← hx]; rfl)
  have HX := Lib.hid hx
  clear hx
  go_enter Try.func21, Try.ntmps21
  go_wp2_with (first | (go_at_call 31; refine (size4_any _ (by first | decide | omega) (by first | decide | omega) _).mono ?_; rintro e w' ⟨rfl, rfl⟩) | (go_at_call 35; refine (shifts_any _).mono ?_; rintro e w' ⟨rfl, rfl⟩) | (go_at_call 34; refine (by_new 209 reg 4 shfs [69, 49] _ (by decide) (by decide) r0 r1 (by decide) x HX _ _ _ _ _ (by simp) rfl rfl rfl).mono ?_; rintro e w1 ⟨rfl, B1⟩; have HB := Lib.hid (below_step (below_last (below_last (Below.refl _ _) _) _) B1); obtain ⟨q0, q1, q2, q3, q4, qf⟩ := five_kept (five_kept1 B1); clear B1))
  refine bodyPost_ret (v := .tuple #[.agg #[.int .i64 x.1.op, .int .i64 x.1.cond, .int .i64 x.1.size, .string ⟨x.1.how.toArray⟩, .int .i64 x.1.c], .bool x.2.1, .bool x.2.2]) (by simp [results, Try.results21, go_sem, q0, q1, q2, q3, q4]) rfl ⟨by rw [HF.out]; rfl, ?_⟩
  exact below5 HB.out _ (Nat.le_refl _)

set_option maxRecDepth 100000 in
set_option maxHeartbeats 4000000 in
theorem first_211 (reg : Int) (m3 : Bool) (r0 : -1 ≤ reg) (r1 : reg < 8) (w : World) : Calls Try.prog 21 #[.int .u8 211, .int .i64 reg, .bool m3] w fun e w' => e = .returned (fstL (firstF 211 reg m3)) ∧ Below w.heap.size w w' := by
  obtain ⟨x, hx⟩ : ∃ x, byF 211 reg shfs 4 [69, 99] = x := ⟨_, rfl⟩
  have HF := Lib.hid (show firstF 211 reg m3 = x by rw [← hx]; rfl)
  have HX := Lib.hid hx
  clear hx
  go_enter Try.func21, Try.ntmps21
  go_wp2_with (first | (go_at_call 31; refine (size4_any _ (by first | decide | omega) (by first | decide | omega) _).mono ?_; rintro e w' ⟨rfl, rfl⟩) | (go_at_call 35; refine (shifts_any _).mono ?_; rintro e w' ⟨rfl, rfl⟩) | (go_at_call 34; refine (by_new 211 reg 4 shfs [69, 99] _ (by decide) (by decide) r0 r1 (by decide) x HX _ _ _ _ _ (by simp) rfl rfl rfl).mono ?_; rintro e w1 ⟨rfl, B1⟩; have HB := Lib.hid (below_step (below_last (below_last (Below.refl _ _) _) _) B1); obtain ⟨q0, q1, q2, q3, q4, qf⟩ := five_kept (five_kept1 B1); clear B1))
  refine bodyPost_ret (v := .tuple #[.agg #[.int .i64 x.1.op, .int .i64 x.1.cond, .int .i64 x.1.size, .string ⟨x.1.how.toArray⟩, .int .i64 x.1.c], .bool x.2.1, .bool x.2.2]) (by simp [results, Try.results21, go_sem, q0, q1, q2, q3, q4]) rfl ⟨by rw [HF.out]; rfl, ?_⟩
  exact below5 HB.out _ (Nat.le_refl _)

end Go.Proofs.Ytlhfpfiehgcciaa
