/- Places go round 2^32, whatever the scale. -/
import Derived.Test.YtbbegbaaefgikaaKnown14
namespace Go.Proofs.Ytbbegbaaefgikaa
set_option maxRecDepth 100000
open Go.ChangeShapes Go.WideShapes Go.ChangeAt Go.RowKit

theorem regN_at (s : Sta) (j : Nat) (h : j < 8) : regN s (j : Int) = s.r j := by
  unfold regN
  rw [if_pos ⟨by omega, by omega⟩]
  rfl
set_option maxRecDepth 100000 in
set_option maxHeartbeats 8000000 in
theorem addrround_walk (s : Sta) (bb ii kk d : Int) (w : World) (hs : StaOk s) (b0 : 0 ≤ bb) (b1 : bb < 256) (i0 : 0 ≤ ii) (i1 : ii < 256) (k0 : 0 ≤ kk) (k1 : kk < 256) (d0 : 0 ≤ d) (d1 : d < 4294967296) :
    Calls Try.prog 3 #[staV s, .int .u8 bb, .int .u8 ii, .int .u8 kk, .int .u32 d] w fun e w' => e = .returned (.bool true) ∧ Below w.heap.size w w' := by
  unfold staV
  go_enter Try.func3, Try.ntmps3
  go_wp2_with fail
  refine (known14_any _).mono ?_
  rintro e w1 ⟨rfl, c1⟩
  go_wp2_with fail
  have HN := Lib.hid (show 0 ≤ 2 ^ (kk % 4).toNat % (4294967296 : Int) from Int.emod_nonneg _ (by decide))
  generalize 2 ^ (kk % 4).toNat % (4294967296 : Int) = N at HN ⊢
  obtain ⟨j, hj⟩ : ∃ j : Nat, bb % 8 = j := ⟨(bb % 8).toNat, by omega⟩
  obtain ⟨m, hm⟩ : ∃ m : Nat, ii % 8 = m := ⟨(ii % 8).toNat, by omega⟩
  have j8 : j < 8 := by omega
  have m8 : m < 8 := by omega
  rw [hj, hm]
  clear hj hm b0 b1 i0 i1 k0 k1
  obtain ⟨W, hW⟩ : ∃ W, W = w1.alloc (.cells #[.int .i64 3, .int .i64 0, .int .i64 (j : Int), .int .i64 (m : Int), .int .i64 N, .int .u32 d] 32) := ⟨_, rfl⟩
  rw [← hW]
  have g0 : (w.alloc (.cells (staL s).toArray 29)).heap[w.heap.size]? = some (.cells (staL s).toArray 29 (0, 0)) := by show (w.heap.push _)[w.heap.size]? = _; simp
  have g1 : w1.heap[w.heap.size]? = some (.cells (staL s).toArray 29 (0, 0)) := (c1.block _ (by simp)).trans g0
  have g2 : W.heap[w.heap.size]? = some (.cells (staL s).toArray 29 (0, 0)) := by rw [hW]; exact ((below_last (Below.refl _ _) _).block _ (Array.getElem?_eq_some_iff.1 g1).1).trans g1
  have g3 : W.heap[w1.heap.size]? = some (.cells #[.int .i64 3, .int .i64 0, .int .i64 (j : Int), .int .i64 (m : Int), .int .i64 N, .int .u32 d] 32 (0, 0)) := by rw [hW]; show (w1.heap.push _)[w1.heap.size]? = _; simp
  have HB := Lib.hid (show Below w.heap.size w W by rw [hW]; exact below_last (below_step (below_last (Below.refl _ _) _) c1) _)
  have HRS := Lib.hid (show ∀ u, Below W.heap.size W u → u.rangeAt w.heap.size 0 (staL s) from fun u hu => range_in13 ((hu.block _ (Array.getElem?_eq_some_iff.1 g2).1).trans g2) 0 _ rfl)
  have HRO := Lib.hid (show ∀ u, Below W.heap.size W u → u.rangeAt w1.heap.size 0 [.int .i64 3, .int .i64 0, .int .i64 (j : Int), .int .i64 (m : Int), .int .i64 N, .int .u32 d] from fun u hu => range_in13 ((hu.block _ (Array.getElem?_eq_some_iff.1 g3).1).trans g3) 0 _ rfl)
  clear g0 g1 g2 g3 hW c1
  have H1 := fun u => of_any s (⟨3, 0, (j : Int), (m : Int), N, d⟩ : Opd) hs u
  have H2 := fun u => of_any s (⟨3, 0, -1, -1, 1, d⟩ : Opd) hs u
  have e2 : ofF s (⟨3, 0, -1, -1, 1, d⟩ : Opd) = d := by
    show (d + regN s (-1) + regN s (-1) * 1) % 4294967296 = d
    rw [show regN s (-1) = 0 from rfl]
    omega
  rw [e2, show opV (⟨3, 0, -1, -1, 1, d⟩ : Opd) = .agg #[.int .i64 3, .int .i64 0, .int .i64 (-1), .int .i64 (-1), .int .i64 1, .int .u32 d] from rfl, show staV s = .agg (staL s).toArray from rfl] at H2
  obtain ⟨x, hx⟩ : ∃ x, s.r j = x := ⟨_, rfl⟩
  obtain ⟨y, hy⟩ : ∃ y, s.r m = y := ⟨_, rfl⟩
  have HX := Lib.hid (show ∀ u, Below W.heap.size W u → u.cell? ⟨w.heap.size, j, none⟩ = some (.int .u32 x) from fun u hu => by have h := HRS.out u hu j _ (sta_r s j j8); rwa [Nat.zero_add, hx] at h)
  have HY := Lib.hid (show ∀ u, Below W.heap.size W u → u.cell? ⟨w.heap.size, m, none⟩ = some (.int .u32 y) from fun u hu => by have h := HRS.out u hu m _ (sta_r s m m8); rwa [Nat.zero_add, hy] at h)
  have eA : ofF s (⟨3, 0, (j : Int), (m : Int), N, d⟩ : Opd) = ((x + y * N % 4294967296) % 4294967296 + d) % 4294967296 := by
    show (d + regN s (j : Int) + regN s (m : Int) * N) % 4294967296 = _
    rw [regN_at s j j8, regN_at s m m8, hx, hy]
    generalize y * N = z
    omega
  rw [eA, show opV (⟨3, 0, (j : Int), (m : Int), N, d⟩ : Opd) = .agg #[.int .i64 3, .int .i64 0, .int .i64 (j : Int), .int .i64 (m : Int), .int .i64 N, .int .u32 d] from rfl, show staV s = .agg (staL s).toArray from rfl] at H1
  clear hx hy eA e2 hs
  obtain ⟨D, hD⟩ : ∃ D, y * N % 4294967296 = D := ⟨_, rfl⟩
  have wD := IntKind.wrap_u32' (y * N)
  rw [hD] at wD H1
  obtain ⟨E, hE⟩ : ∃ E, (x + D) % 4294967296 = E := ⟨_, rfl⟩
  have wE := IntKind.wrap_u32' (x + D)
  rw [hE] at wE H1
  obtain ⟨A, hA⟩ : ∃ A, (E + d) % 4294967296 = A := ⟨_, rfl⟩
  have wA := IntKind.wrap_u32' (E + d)
  rw [hA] at wA H1
  have H1 := Lib.hid H1
  have H2 := Lib.hid H2
  clear hD hE hA d0 d1 HN
  have jj : (j : Int) < 8 := by omega
  have mm : (m : Int) < 8 := by omega
  have hne := class_const (C := fun u => Below W.heap.size W u) (Below.refl W.heap.size W)
  refine wp_region_quietC (fun u => Below W.heap.size W u) (by kernel_rfl) (by kernel_rfl) ((Below.refl _ _).drew) ?_
  go_big_quiet_want; refine quietC_load 29 (.tmp 5) w.heap.size 0 rfl (staL s) _ HRS.out Try.underlying29 rfl info_sta ?_; go_big_quiet_op; go_big_quiet_on
  go_big_quiet_want; refine quietC_load 32 (.tmp 14) w1.heap.size 0 rfl ([.int .i64 3, .int .i64 0, .int .i64 (j : Int), .int .i64 (m : Int), .int .i64 N, .int .u32 d]) _ HRO.out Try.underlying32 rfl info_opd1 ?_; go_big_quiet_op; go_big_quiet_on
  go_big_quiet_want; refine quietC_call 6 #[.tmp 32, .tmp 33] _ #[.agg (staL s).toArray, .agg #[.int .i64 3, .int .i64 0, .int .i64 (j : Int), .int .i64 (m : Int), .int .i64 N, .int .u32 d]] (.int .u32 A) (fun u _ => by simp [Act.eval, go_sem]) (fun u hu => (H1.out u).mono fun _ _ ⟨h1, h2⟩ => ⟨h1, below_step hu h2⟩) ?_; go_big_quiet_op; go_big_quiet_on
  go_big_quiet_want; go_big_quiet_op; go_big_quiet_on
  go_big_quiet_want; go_big_quiet_op; go_big_quiet_on
  go_big_quiet_want; go_big_quiet_op; go_big_quiet_on
  go_big_quiet_want; refine quietC_read 22 (.tmp 37) (.int .u32 x) (fun u hu => by have := HX.out u hu; simp [Act.eval, go_sem, this]) ?_; go_big_quiet_op; go_big_quiet_on
  go_big_quiet_want; go_big_quiet_op; go_big_quiet_on
  go_big_quiet_want; go_big_quiet_op; go_big_quiet_on
  go_big_quiet_want; go_big_quiet_op; go_big_quiet_on
  go_big_quiet_want; refine quietC_read 22 (.tmp 41) (.int .u32 y) (fun u hu => by have := HY.out u hu; simp [Act.eval, go_sem, this]) ?_; go_big_quiet_op; go_big_quiet_on
  go_big_quiet_want; go_big_quiet_op; go_big_quiet_on
  go_big_quiet_want; refine quietC_val _ (.int .u32 D) (fun u _ => by simp [execOp, Act.eval, go_sem, wD]) ?_; go_big_quiet_op; go_big_quiet_on
  go_big_quiet_want; refine quietC_val _ (.int .u32 E) (fun u _ => by simp [execOp, Act.eval, go_sem, wE]) ?_; go_big_quiet_op; go_big_quiet_on
  go_big_quiet_want; go_big_quiet_op; go_big_quiet_on
  go_big_quiet_want; refine quietC_val _ (.int .u32 A) (fun u _ => by simp [execOp, Act.eval, go_sem, wA]) ?_; go_big_quiet_op; go_big_quiet_on
  go_big_quiet_want; refine quietC_val _ (.bool true) (fun u _ => by simp [execOp, Act.eval, go_sem]) ?_; go_big_quiet_op; go_big_quiet_on
  go_big_quiet_want; go_big_quiet_op; go_big_quiet_on
  go_big_quiet_want; refine quietC_load 29 (.tmp 5) w.heap.size 0 rfl (staL s) _ HRS.out Try.underlying29 rfl info_sta ?_; go_big_quiet_op; go_big_quiet_on
  go_big_quiet_want; go_big_quiet_op; go_big_quiet_on
  go_big_quiet_want; go_big_quiet_op; go_big_quiet_on
  go_big_quiet_want; refine quietC_call 6 #[.tmp 50, .tmp 52] _ #[.agg (staL s).toArray, .agg #[.int .i64 3, .int .i64 0, .int .i64 (-1), .int .i64 (-1), .int .i64 1, .int .u32 d]] (.int .u32 d) (fun u _ => by simp [Act.eval, go_sem]) (fun u hu => (H2.out u).mono fun _ _ ⟨h1, h2⟩ => ⟨h1, below_step hu h2⟩) ?_; go_big_quiet_op; go_big_quiet_on
  go_big_quiet_want; go_big_quiet_op; go_big_quiet_on
  go_big_quiet_want; refine quietC_val _ (.bool true) (fun u _ => by simp [execOp, Act.eval, go_sem]) ?_; go_big_quiet_op; go_big_quiet_on
  go_big_quiet_want; go_big_quiet_op; go_big_quiet_on
  go_big_quiet_want; go_big_quiet_op; go_big_quiet_on
  refine wpQuiet_nil ?_
  intro w5 hw5
  have HW5 := Lib.hid (below_step HB.out hw5)
  clear hw5
  go_wp2_with fail
  go_ret
  exact ⟨rfl, HW5.out⟩
end Go.Proofs.Ytbbegbaaefgikaa
