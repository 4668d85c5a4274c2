/- The landed operands (package addr): where one is. -/
import Derived.Test.YtbbegbaaefgikaaOf14
import Derived.Test.YtbbegbaaefgikaaLand13g
namespace Go.Proofs.Ytbbegbaaefgikaa
set_option maxRecDepth 100000
open Go.ChangeShapes Go.WideShapes Go.ChangeAt Go.RowKit

theorem get_regN (s : Sta) (i : Int) : getG s (⟨1, i, 0, 0, 0, 0⟩ : Opd) = regN s i := by
  unfold getG getF regN
  by_cases h : 0 ≤ i ∧ i ≤ 7
  · rw [if_pos h, if_pos h, if_neg (show ¬ (1 : Int) = 4 by decide), if_pos h, if_pos rfl]
  · rw [if_neg h, if_neg h]
set_option maxRecDepth 100000 in
set_option maxHeartbeats 8000000 in
theorem register_any (s : Sta) (i : Int) (hs : StaOk s) (w : World) : Calls Try.prog 10 #[staV s, .int .i64 i] w fun e w' => e = .returned (.int .u32 (regN s i)) ∧ Below w.heap.size w w' := by
  have hlo := regN_lo hs i
  have H := fun u => get_any s (⟨1, i, 0, 0, 0, 0⟩ : Opd) hs (Int.le_refl _) (by show (0 : Int) < _; decide) u
  obtain ⟨V, hV⟩ : ∃ V, regN s i = V := ⟨_, rfl⟩
  rw [get_regN, hV, show opV (⟨1, i, 0, 0, 0, 0⟩ : Opd) = .agg #[.int .i64 1, .int .i64 i, .int .i64 0, .int .i64 0, .int .i64 0, .int .u32 0] from rfl, show staV s = .agg (staL s).toArray from rfl] at H
  rw [hV] at hlo ⊢
  obtain ⟨v0, v1⟩ := hlo
  have H := Lib.hid H
  clear hs hV
  unfold staV
  go_enter Try.func10, Try.ntmps10
  go_upto_region 1 with fail
  obtain ⟨W, hW⟩ : ∃ W, W = w.alloc (.cells (staL s).toArray 29) := ⟨_, rfl⟩
  rw [← hW]
  have hb : W.heap[w.heap.size]? = some (.cells (staL s).toArray 29 (0, 0)) := by rw [hW]; show (w.heap.push _)[w.heap.size]? = _; simp
  have HB := Lib.hid (show Below w.heap.size w W by rw [hW]; exact below_last (Below.refl _ _) _)
  have HR := Lib.hid (range_in13 hb 0 (staL s) rfl)
  clear hb hW
  go_wp2_with (refine wpList_load_mid rfl 29 (.tmp 2) rfl w.heap.size 0 rfl (staL s) _ HR.out Try.underlying29 rfl info_sta ?_)
  ((with_reducible refine (H.out _).mono ?_); rintro e w1 ⟨rfl, b1⟩)
  have HB1 := Lib.hid (below_step HB.out b1)
  clear b1
  go_wp2_with fail
  go_ret
  exact ⟨rfl, HB1.out⟩
theorem of_land (x y c d : Int) : ((x + y * (c % 4294967296) % 4294967296) % 4294967296 + d) % 4294967296 = (d + x + y * c) % 4294967296 := by
  rw [mul_wrap]
  generalize y * c = z
  omega
set_option maxRecDepth 100000 in
set_option maxHeartbeats 8000000 in
theorem of_any (s : Sta) (o : Opd) (hs : StaOk s) (w : World) : Calls Try.prog 6 #[staV s, opV o] w fun e w' => e = .returned (.int .u32 (ofF s o)) ∧ Below w.heap.size w w' := by
  obtain ⟨k, r, b, i, c, d⟩ := o
  have H1 := fun u => register_any s b hs u
  have H2 := fun u => register_any s i hs u
  obtain ⟨x, hx⟩ : ∃ x, regN s b = x := ⟨_, rfl⟩
  obtain ⟨y, hy⟩ : ∃ y, regN s i = y := ⟨_, rfl⟩
  have hA : ofF s ⟨k, r, b, i, c, d⟩ = ((x + y * (c % 4294967296) % 4294967296) % 4294967296 + d) % 4294967296 := by
    rw [of_land, ← hx, ← hy]
    rfl
  rw [hA]
  rw [hx, show staV s = .agg (staL s).toArray from rfl] at H1
  rw [hy, show staV s = .agg (staL s).toArray from rfl] at H2
  clear hx hy hA hs
  obtain ⟨C, hC⟩ : ∃ C, c % 4294967296 = C := ⟨_, rfl⟩
  have wC := IntKind.wrap_u32' c
  rw [hC] at wC ⊢
  obtain ⟨D, hD⟩ : ∃ D, y * C % 4294967296 = D := ⟨_, rfl⟩
  have wD := IntKind.wrap_u32' (y * C)
  rw [hD] at wD ⊢
  obtain ⟨E, hE⟩ : ∃ E, (x + D) % 4294967296 = E := ⟨_, rfl⟩
  have wE := IntKind.wrap_u32' (x + D)
  rw [hE] at wE ⊢
  obtain ⟨A, hA⟩ : ∃ A, (E + d) % 4294967296 = A := ⟨_, rfl⟩
  have wA := IntKind.wrap_u32' (E + d)
  rw [hA] at wA ⊢
  clear hC hD hE hA
  have H1 := Lib.hid H1
  have H2 := Lib.hid H2
  unfold staV opV
  go_enter Try.func6, Try.ntmps6
  go_upto_region 1 with fail
  obtain ⟨W, hW⟩ : ∃ W, W = (w.alloc (.cells (staL s).toArray 29)).alloc (.cells #[.int .i64 k, .int .i64 r, .int .i64 b, .int .i64 i, .int .i64 c, .int .u32 d] 32) := ⟨_, rfl⟩
  rw [← hW]
  have hbel := (heap_two hW).2.2
  have HB := Lib.hid hbel
  have HRW := fun u hu => rng_two (o := ⟨k, r, b, i, c, d⟩) hW (u := u) hu
  have HRS := Lib.hid (show ∀ u, Below W.heap.size W u → u.rangeAt w.heap.size 0 (staL s) from fun u hu => (HRW u hu).1)
  have HRO := Lib.hid (show ∀ u, Below W.heap.size W u → ∀ (j : Nat) (v : Value), (opL' ⟨k, r, b, i, c, d⟩)[j]? = some v → u.cell? ⟨w.heap.size + 1, j, none⟩ = some v from fun u hu j v hj => by have h := (HRW u hu).2 j v hj; rwa [Nat.zero_add] at h)
  clear HRW hW hbel
  have hne := class_const (C := fun u => Below W.heap.size W u) (Below.refl W.heap.size W)
  refine wp_region_quietC (fun u => Below W.heap.size W u) (by kernel_rfl) (by kernel_rfl) ((Below.refl _ _).drew) ?_
  go_big_quiet_want; refine quietC_load 29 (.tmp 2) w.heap.size 0 rfl (staL s) _ HRS.out Try.underlying29 rfl info_sta ?_; go_big_quiet_op; go_big_quiet_on
  go_big_quiet_want; go_big_quiet_op; go_big_quiet_on
  go_big_quiet_want; refine quietC_read 3 (.tmp 6) (.int .i64 b) (fun u hu => by have := HRO.out u hu 2 _ rfl; simp [Act.eval, go_sem, this]) ?_; go_big_quiet_op; go_big_quiet_on
  go_big_quiet_want; refine quietC_call 10 #[.tmp 5, .tmp 7] _ #[.agg (staL s).toArray, .int .i64 b] (.int .u32 x) (fun u _ => by simp [Act.eval, go_sem]) (fun u hu => (H1.out u).mono fun _ _ ⟨h1, h2⟩ => ⟨h1, below_step hu h2⟩) ?_; go_big_quiet_op; go_big_quiet_on
  go_big_quiet_want; refine quietC_load 29 (.tmp 2) w.heap.size 0 rfl (staL s) _ HRS.out Try.underlying29 rfl info_sta ?_; go_big_quiet_op; go_big_quiet_on
  go_big_quiet_want; go_big_quiet_op; go_big_quiet_on
  go_big_quiet_want; refine quietC_read 3 (.tmp 10) (.int .i64 i) (fun u hu => by have := HRO.out u hu 3 _ rfl; simp [Act.eval, go_sem, this]) ?_; go_big_quiet_op; go_big_quiet_on
  go_big_quiet_want; refine quietC_call 10 #[.tmp 9, .tmp 11] _ #[.agg (staL s).toArray, .int .i64 i] (.int .u32 y) (fun u _ => by simp [Act.eval, go_sem]) (fun u hu => (H2.out u).mono fun _ _ ⟨h1, h2⟩ => ⟨h1, below_step hu h2⟩) ?_; go_big_quiet_op; go_big_quiet_on
  go_big_quiet_want; go_big_quiet_op; go_big_quiet_on
  go_big_quiet_want; refine quietC_read 3 (.tmp 13) (.int .i64 c) (fun u hu => by have := HRO.out u hu 4 _ rfl; simp [Act.eval, go_sem, this]) ?_; go_big_quiet_op; go_big_quiet_on
  go_big_quiet_want; refine quietC_val _ (.int .u32 C) (fun u _ => by simp [execOp, Act.eval, go_sem, wC]) ?_; go_big_quiet_op; go_big_quiet_on
  go_big_quiet_want; refine quietC_val _ (.int .u32 D) (fun u _ => by simp [execOp, Act.eval, go_sem, wD]) ?_; go_big_quiet_op; go_big_quiet_on
  go_big_quiet_want; refine quietC_val _ (.int .u32 E) (fun u _ => by simp [execOp, Act.eval, go_sem, wE]) ?_; go_big_quiet_op; go_big_quiet_on
  go_big_quiet_want; go_big_quiet_op; go_big_quiet_on
  go_big_quiet_want; refine quietC_read 22 (.tmp 18) (.int .u32 d) (fun u hu => by have := HRO.out u hu 5 _ rfl; simp [Act.eval, go_sem, this]) ?_; go_big_quiet_op; go_big_quiet_on
  go_big_quiet_want; refine quietC_val _ (.int .u32 A) (fun u _ => by simp [execOp, Act.eval, go_sem, wA]) ?_; go_big_quiet_op; go_big_quiet_on
  go_big_quiet_want; go_big_quiet_op; go_big_quiet_on
  refine wpQuiet_nil ?_
  intro w5 hw5
  have HW5 := Lib.hid (below_step HB.out hw5)
  clear hw5
  go_wp2_with fail
  go_ret
  exact ⟨rfl, HW5.out⟩
end Go.Proofs.Ytbbegbaaefgikaa
