/- The landed registers (package regs): the word of flags, and back. -/
import Derived.Test.YtplghmkicdpbfaaRegC
import Derived.Test.YtplghmkicdpbfaaRef13f
namespace Go.Proofs.Ytplghmkicdpbfaa
open Go.ChangeShapes Go.WideShapes Go.ChangeAt Go.RowKit

theorem word_or2 : ∀ c p z s o d : Bool, ∀ k, k < 6 → bits .or .u32 (wordK c p z s o d k) (if flB c p z s o d k then 2 ^ plN k else 0) = wordK c p z s o d (k + 1) := by decide +kernel
theorem bit_any (b : Bool) (k : Nat) (hk : k < 6) (w : World) : Calls Try.prog 19 #[.bool b, .int .u64 (plN k : Int)] w fun e w' => e = .returned (.int .u32 (if b then 2 ^ plN k else 0)) ∧ w = w' := by
  rcases (show k = 0 ∨ k = 1 ∨ k = 2 ∨ k = 3 ∨ k = 4 ∨ k = 5 by omega) with rfl | rfl | rfl | rfl | rfl | rfl
  · show Calls _ _ #[.bool b, .int .u64 0] _ _
    cases b
    all_goals
      go_enter Try.func19, Try.ntmps19
      go_wp2
      go_ret
      exact ⟨rfl, rfl⟩
  · show Calls _ _ #[.bool b, .int .u64 2] _ _
    cases b
    all_goals
      go_enter Try.func19, Try.ntmps19
      go_wp2
      go_ret
      exact ⟨rfl, rfl⟩
  · show Calls _ _ #[.bool b, .int .u64 6] _ _
    cases b
    all_goals
      go_enter Try.func19, Try.ntmps19
      go_wp2
      go_ret
      exact ⟨rfl, rfl⟩
  · show Calls _ _ #[.bool b, .int .u64 7] _ _
    cases b
    all_goals
      go_enter Try.func19, Try.ntmps19
      go_wp2
      go_ret
      exact ⟨rfl, rfl⟩
  · show Calls _ _ #[.bool b, .int .u64 10] _ _
    cases b
    all_goals
      go_enter Try.func19, Try.ntmps19
      go_wp2
      go_ret
      exact ⟨rfl, rfl⟩
  · show Calls _ _ #[.bool b, .int .u64 11] _ _
    cases b
    all_goals
      go_enter Try.func19, Try.ntmps19
      go_wp2
      go_ret
      exact ⟨rfl, rfl⟩
theorem has_any (v : Int) (v0 : 0 ≤ v) (v1 : v < 4294967296) (k : Nat) (hk : k < 6) (w : World) : Calls Try.prog 21 #[.int .u32 v, .int .u64 (plN k : Int)] w fun e w' => e = .returned (.bool (bitB v k)) ∧ w = w' := by
  rcases (show k = 0 ∨ k = 1 ∨ k = 2 ∨ k = 3 ∨ k = 4 ∨ k = 5 by omega) with rfl | rfl | rfl | rfl | rfl | rfl
  · obtain ⟨B, hB⟩ : ∃ B, bitB v 0 = B := ⟨_, rfl⟩
    rw [hB]
    have a1 := and1w (v) (by omega) (by omega)
    have n1 : (v % 2 != 0) = B := by
      rw [← hB]
      unfold bitB
      rw [show (2 : Int) ^ plN 0 = 1 from rfl]
      rw [Int.ediv_one]
      rcases (show v % 2 = 0 ∨ v % 2 = 1 by omega) with h | h <;> rw [h] <;> rfl
    clear hB
    show Calls _ _ #[.int .u32 v, .int .u64 0] _ _
    go_enter Try.func21, Try.ntmps21
    go_wp2
    go_ret
    exact ⟨rfl, rfl⟩
  · obtain ⟨B, hB⟩ : ∃ B, bitB v 1 = B := ⟨_, rfl⟩
    rw [hB]
    have a1 := and1w (v / 4) (by omega) (by omega)
    have n1 : (v / 4 % 2 != 0) = B := by
      rw [← hB]
      unfold bitB
      rw [show (2 : Int) ^ plN 1 = 4 from rfl]
      rcases (show v / 4 % 2 = 0 ∨ v / 4 % 2 = 1 by omega) with h | h <;> rw [h] <;> rfl
    clear hB
    show Calls _ _ #[.int .u32 v, .int .u64 2] _ _
    go_enter Try.func21, Try.ntmps21
    go_wp2
    go_ret
    exact ⟨rfl, rfl⟩
  · obtain ⟨B, hB⟩ : ∃ B, bitB v 2 = B := ⟨_, rfl⟩
    rw [hB]
    have a1 := and1w (v / 64) (by omega) (by omega)
    have n1 : (v / 64 % 2 != 0) = B := by
      rw [← hB]
      unfold bitB
      rw [show (2 : Int) ^ plN 2 = 64 from rfl]
      rcases (show v / 64 % 2 = 0 ∨ v / 64 % 2 = 1 by omega) with h | h <;> rw [h] <;> rfl
    clear hB
    show Calls _ _ #[.int .u32 v, .int .u64 6] _ _
    go_enter Try.func21, Try.ntmps21
    go_wp2
    go_ret
    exact ⟨rfl, rfl⟩
  · obtain ⟨B, hB⟩ : ∃ B, bitB v 3 = B := ⟨_, rfl⟩
    rw [hB]
    have a1 := and1w (v / 128) (by omega) (by omega)
    have n1 : (v / 128 % 2 != 0) = B := by
      rw [← hB]
      unfold bitB
      rw [show (2 : Int) ^ plN 3 = 128 from rfl]
      rcases (show v / 128 % 2 = 0 ∨ v / 128 % 2 = 1 by omega) with h | h <;> rw [h] <;> rfl
    clear hB
    show Calls _ _ #[.int .u32 v, .int .u64 7] _ _
    go_enter Try.func21, Try.ntmps21
    go_wp2
    go_ret
    exact ⟨rfl, rfl⟩
  · obtain ⟨B, hB⟩ : ∃ B, bitB v 4 = B := ⟨_, rfl⟩
    rw [hB]
    have a1 := and1w (v / 1024) (by omega) (by omega)
    have n1 : (v / 1024 % 2 != 0) = B := by
      rw [← hB]
      unfold bitB
      rw [show (2 : Int) ^ plN 4 = 1024 from rfl]
      rcases (show v / 1024 % 2 = 0 ∨ v / 1024 % 2 = 1 by omega) with h | h <;> rw [h] <;> rfl
    clear hB
    show Calls _ _ #[.int .u32 v, .int .u64 10] _ _
    go_enter Try.func21, Try.ntmps21
    go_wp2
    go_ret
    exact ⟨rfl, rfl⟩
  · obtain ⟨B, hB⟩ : ∃ B, bitB v 5 = B := ⟨_, rfl⟩
    rw [hB]
    have a1 := and1w (v / 2048) (by omega) (by omega)
    have n1 : (v / 2048 % 2 != 0) = B := by
      rw [← hB]
      unfold bitB
      rw [show (2 : Int) ^ plN 5 = 2048 from rfl]
      rcases (show v / 2048 % 2 = 0 ∨ v / 2048 % 2 = 1 by omega) with h | h <;> rw [h] <;> rfl
    clear hB
    show Calls _ _ #[.int .u32 v, .int .u64 11] _ _
    go_enter Try.func21, Try.ntmps21
    go_wp2
    go_ret
    exact ⟨rfl, rfl⟩
structure WC (c p z s o d : Bool) (w u : World) : Prop where
  b : u.heap[w.heap.size]? = some (.cells #[.bool c, .bool p, .bool z, .bool s, .bool o, .bool d] 25 (0, 0))
  bel : Below w.heap.size w u
set_option maxRecDepth 100000 in
set_option maxHeartbeats 8000000 in
theorem word_any (c p z s o d : Bool) (w : World) : Calls Try.prog 9 #[.agg #[.bool c, .bool p, .bool z, .bool s, .bool o, .bool d]] w fun e w' => e = .returned (.int .u32 (wordK c p z s o d 6)) ∧ Below w.heap.size w w' := by
  have K := fun k hk => word_or2 c p z s o d k hk
  obtain ⟨T0, hT0⟩ : ∃ T : Int, (if c then 2 ^ plN 0 else 0) = T := ⟨_, rfl⟩
  have B0 := Lib.hid (fun u => bit_any c 0 (by decide) u)
  have V1 := K 0 (by decide)
  rw [hT0, show ((plN 0 : Nat) : Int) = 0 from rfl] at B0
  rw [show flB c p z s o d 0 = c from rfl, hT0] at V1
  obtain ⟨T1, hT1⟩ : ∃ T : Int, (if p then 2 ^ plN 1 else 0) = T := ⟨_, rfl⟩
  have B1 := Lib.hid (fun u => bit_any p 1 (by decide) u)
  have V2 := K 1 (by decide)
  rw [hT1, show ((plN 1 : Nat) : Int) = 2 from rfl] at B1
  rw [show flB c p z s o d 1 = p from rfl, hT1] at V2
  obtain ⟨T2, hT2⟩ : ∃ T : Int, (if z then 2 ^ plN 2 else 0) = T := ⟨_, rfl⟩
  have B2 := Lib.hid (fun u => bit_any z 2 (by decide) u)
  have V3 := K 2 (by decide)
  rw [hT2, show ((plN 2 : Nat) : Int) = 6 from rfl] at B2
  rw [show flB c p z s o d 2 = z from rfl, hT2] at V3
  obtain ⟨T3, hT3⟩ : ∃ T : Int, (if s then 2 ^ plN 3 else 0) = T := ⟨_, rfl⟩
  have B3 := Lib.hid (fun u => bit_any s 3 (by decide) u)
  have V4 := K 3 (by decide)
  rw [hT3, show ((plN 3 : Nat) : Int) = 7 from rfl] at B3
  rw [show flB c p z s o d 3 = s from rfl, hT3] at V4
  obtain ⟨T4, hT4⟩ : ∃ T : Int, (if d then 2 ^ plN 4 else 0) = T := ⟨_, rfl⟩
  have B4 := Lib.hid (fun u => bit_any d 4 (by decide) u)
  have V5 := K 4 (by decide)
  rw [hT4, show ((plN 4 : Nat) : Int) = 10 from rfl] at B4
  rw [show flB c p z s o d 4 = d from rfl, hT4] at V5
  obtain ⟨T5, hT5⟩ : ∃ T : Int, (if o then 2 ^ plN 5 else 0) = T := ⟨_, rfl⟩
  have B5 := Lib.hid (fun u => bit_any o 5 (by decide) u)
  have V6 := K 5 (by decide)
  rw [hT5, show ((plN 5 : Nat) : Int) = 11 from rfl] at B5
  rw [show flB c p z s o d 5 = o from rfl, hT5] at V6
  obtain ⟨W1, hW1⟩ : ∃ W, wordK c p z s o d 1 = W := ⟨_, rfl⟩
  obtain ⟨W2, hW2⟩ : ∃ W, wordK c p z s o d 2 = W := ⟨_, rfl⟩
  obtain ⟨W3, hW3⟩ : ∃ W, wordK c p z s o d 3 = W := ⟨_, rfl⟩
  obtain ⟨W4, hW4⟩ : ∃ W, wordK c p z s o d 4 = W := ⟨_, rfl⟩
  obtain ⟨W5, hW5⟩ : ∃ W, wordK c p z s o d 5 = W := ⟨_, rfl⟩
  obtain ⟨W6, hW6⟩ : ∃ W, wordK c p z s o d 6 = W := ⟨_, rfl⟩
  rw [show wordK c p z s o d 0 = 2 from rfl, hW1] at V1
  rw [hW1, hW2] at V2
  rw [hW2, hW3] at V3
  rw [hW3, hW4] at V4
  rw [hW4, hW5] at V5
  rw [hW5, hW6] at V6
  rw [hW6]
  clear K hT0 hT1 hT2 hT3 hT4 hT5 hW1 hW2 hW3 hW4 hW5 hW6
  go_enter Try.func9, Try.ntmps9
  go_upto_region 1 with fail
  obtain ⟨W, hW⟩ : ∃ W, W = w.alloc (.cells #[.bool c, .bool p, .bool z, .bool s, .bool o, .bool d] 25) := ⟨_, rfl⟩
  rw [← hW]
  have hC : WC c p z s o d w W := by
    rw [hW]
    exact ⟨heap_0f w _, below_last (Below.refl _ _) _⟩
  clear hW
  have hne := class_const (C := WC c p z s o d w) hC
  refine wp_region_quietC (WC c p z s o d w) (by kernel_rfl) (by kernel_rfl) ⟨hC.1, hC.2.drew⟩ ?_
  go_big_quiet_want; go_big_quiet_op; go_big_quiet_on
  go_big_quiet_want; refine quietC_read 4 (.tmp 3) (.bool c) (fun u hu => by have := (cell_block hu.1 0).1; simp [Act.eval, go_sem, this]) ?_; go_big_quiet_op; go_big_quiet_on
  go_big_quiet_want; refine quietC_call 19 #[.tmp 4, .const (.int .u64 0)] _ #[.bool c, .int .u64 0] (.int .u32 T0) (fun u _ => by simp [Act.eval, go_sem]) (fun u hu => (B0.out u).mono fun _ _ ⟨h1, h2⟩ => ⟨h1, h2 ▸ hu⟩) ?_; go_big_quiet_op; go_big_quiet_on
  go_big_quiet_want; refine quietC_val _ (.int .u32 W1) (fun u _ => by simp [execOp, Act.eval, go_sem, V1]) ?_; go_big_quiet_op; go_big_quiet_on
  go_big_quiet_want; go_big_quiet_op; go_big_quiet_on
  go_big_quiet_want; refine quietC_read 4 (.tmp 7) (.bool p) (fun u hu => by have := (cell_block hu.1 1).1; simp [Act.eval, go_sem, this]) ?_; go_big_quiet_op; go_big_quiet_on
  go_big_quiet_want; refine quietC_call 19 #[.tmp 8, .const (.int .u64 2)] _ #[.bool p, .int .u64 2] (.int .u32 T1) (fun u _ => by simp [Act.eval, go_sem]) (fun u hu => (B1.out u).mono fun _ _ ⟨h1, h2⟩ => ⟨h1, h2 ▸ hu⟩) ?_; go_big_quiet_op; go_big_quiet_on
  go_big_quiet_want; refine quietC_val _ (.int .u32 W2) (fun u _ => by simp [execOp, Act.eval, go_sem, V2]) ?_; go_big_quiet_op; go_big_quiet_on
  go_big_quiet_want; go_big_quiet_op; go_big_quiet_on
  go_big_quiet_want; refine quietC_read 4 (.tmp 11) (.bool z) (fun u hu => by have := (cell_block hu.1 2).1; simp [Act.eval, go_sem, this]) ?_; go_big_quiet_op; go_big_quiet_on
  go_big_quiet_want; refine quietC_call 19 #[.tmp 12, .const (.int .u64 6)] _ #[.bool z, .int .u64 6] (.int .u32 T2) (fun u _ => by simp [Act.eval, go_sem]) (fun u hu => (B2.out u).mono fun _ _ ⟨h1, h2⟩ => ⟨h1, h2 ▸ hu⟩) ?_; go_big_quiet_op; go_big_quiet_on
  go_big_quiet_want; refine quietC_val _ (.int .u32 W3) (fun u _ => by simp [execOp, Act.eval, go_sem, V3]) ?_; go_big_quiet_op; go_big_quiet_on
  go_big_quiet_want; go_big_quiet_op; go_big_quiet_on
  go_big_quiet_want; refine quietC_read 4 (.tmp 15) (.bool s) (fun u hu => by have := (cell_block hu.1 3).1; simp [Act.eval, go_sem, this]) ?_; go_big_quiet_op; go_big_quiet_on
  go_big_quiet_want; refine quietC_call 19 #[.tmp 16, .const (.int .u64 7)] _ #[.bool s, .int .u64 7] (.int .u32 T3) (fun u _ => by simp [Act.eval, go_sem]) (fun u hu => (B3.out u).mono fun _ _ ⟨h1, h2⟩ => ⟨h1, h2 ▸ hu⟩) ?_; go_big_quiet_op; go_big_quiet_on
  go_big_quiet_want; refine quietC_val _ (.int .u32 W4) (fun u _ => by simp [execOp, Act.eval, go_sem, V4]) ?_; go_big_quiet_op; go_big_quiet_on
  go_big_quiet_want; go_big_quiet_op; go_big_quiet_on
  go_big_quiet_want; refine quietC_read 4 (.tmp 19) (.bool d) (fun u hu => by have := (cell_block hu.1 5).1; simp [Act.eval, go_sem, this]) ?_; go_big_quiet_op; go_big_quiet_on
  go_big_quiet_want; refine quietC_call 19 #[.tmp 20, .const (.int .u64 10)] _ #[.bool d, .int .u64 10] (.int .u32 T4) (fun u _ => by simp [Act.eval, go_sem]) (fun u hu => (B4.out u).mono fun _ _ ⟨h1, h2⟩ => ⟨h1, h2 ▸ hu⟩) ?_; go_big_quiet_op; go_big_quiet_on
  go_big_quiet_want; refine quietC_val _ (.int .u32 W5) (fun u _ => by simp [execOp, Act.eval, go_sem, V5]) ?_; go_big_quiet_op; go_big_quiet_on
  go_big_quiet_want; go_big_quiet_op; go_big_quiet_on
  go_big_quiet_want; refine quietC_read 4 (.tmp 23) (.bool o) (fun u hu => by have := (cell_block hu.1 4).1; simp [Act.eval, go_sem, this]) ?_; go_big_quiet_op; go_big_quiet_on
  go_big_quiet_want; refine quietC_call 19 #[.tmp 24, .const (.int .u64 11)] _ #[.bool o, .int .u64 11] (.int .u32 T5) (fun u _ => by simp [Act.eval, go_sem]) (fun u hu => (B5.out u).mono fun _ _ ⟨h1, h2⟩ => ⟨h1, h2 ▸ hu⟩) ?_; go_big_quiet_op; go_big_quiet_on
  go_big_quiet_want; refine quietC_val _ (.int .u32 W6) (fun u _ => by simp [execOp, Act.eval, go_sem, V6]) ?_; go_big_quiet_op; go_big_quiet_on
  go_big_quiet_want; go_big_quiet_op; go_big_quiet_on
  refine wpQuiet_nil ?_
  intro w5 hw5
  go_wp2_with fail
  go_returns
  exact ⟨rfl, hw5.2⟩
theorem fromword_any (v : Int) (v0 : 0 ≤ v) (v1 : v < 4294967296) (w : World) : Calls Try.prog 11 #[.int .u32 v] w fun e w' => e = .returned (.agg #[.bool (bitB v 0), .bool (bitB v 1), .bool (bitB v 2), .bool (bitB v 3), .bool (bitB v 5), .bool (bitB v 4)]) ∧ Below w.heap.size w w' := by
  have H0 := Lib.hid (fun u => has_any v v0 v1 0 (by decide) u)
  obtain ⟨B0, hB0⟩ : ∃ B, bitB v 0 = B := ⟨_, rfl⟩
  rw [hB0] at H0 ⊢
  rw [show ((plN 0 : Nat) : Int) = 0 from rfl] at H0
  have H1 := Lib.hid (fun u => has_any v v0 v1 1 (by decide) u)
  obtain ⟨B1, hB1⟩ : ∃ B, bitB v 1 = B := ⟨_, rfl⟩
  rw [hB1] at H1 ⊢
  rw [show ((plN 1 : Nat) : Int) = 2 from rfl] at H1
  have H2 := Lib.hid (fun u => has_any v v0 v1 2 (by decide) u)
  obtain ⟨B2, hB2⟩ : ∃ B, bitB v 2 = B := ⟨_, rfl⟩
  rw [hB2] at H2 ⊢
  rw [show ((plN 2 : Nat) : Int) = 6 from rfl] at H2
  have H3 := Lib.hid (fun u => has_any v v0 v1 3 (by decide) u)
  obtain ⟨B3, hB3⟩ : ∃ B, bitB v 3 = B := ⟨_, rfl⟩
  rw [hB3] at H3 ⊢
  rw [show ((plN 3 : Nat) : Int) = 7 from rfl] at H3
  have H4 := Lib.hid (fun u => has_any v v0 v1 4 (by decide) u)
  obtain ⟨B4, hB4⟩ : ∃ B, bitB v 4 = B := ⟨_, rfl⟩
  rw [hB4] at H4 ⊢
  rw [show ((plN 4 : Nat) : Int) = 10 from rfl] at H4
  have H5 := Lib.hid (fun u => has_any v v0 v1 5 (by decide) u)
  obtain ⟨B5, hB5⟩ : ∃ B, bitB v 5 = B := ⟨_, rfl⟩
  rw [hB5] at H5 ⊢
  rw [show ((plN 5 : Nat) : Int) = 11 from rfl] at H5
  clear hB0 hB1 hB2 hB3 hB4 hB5
  go_enter Try.func11, Try.ntmps11
  go_upto_region 1 with fail
  obtain ⟨W, hW⟩ : ∃ W, W = w.alloc (.cells #[.bool false, .bool false, .bool false, .bool false, .bool false, .bool false] 25) := ⟨_, rfl⟩
  rw [← hW]
  have HT := Lib.hid (show W.there w.heap.size 0 6 from there_block (by rw [hW]; exact heap_0f w _) 0 6 (by decide))
  have HB := Lib.hid (show Below w.heap.size w W by rw [hW]; exact below_last (Below.refl _ _) _)
  clear hW
  go_wp2_with fail
  ((with_reducible refine (H0.out _).mono ?_); rintro e w' ⟨rfl, rfl⟩)
  go_wp2_with fail
  ((with_reducible refine (H1.out _).mono ?_); rintro e w' ⟨rfl, rfl⟩)
  go_wp2_with fail
  ((with_reducible refine (H2.out _).mono ?_); rintro e w' ⟨rfl, rfl⟩)
  go_wp2_with fail
  ((with_reducible refine (H3.out _).mono ?_); rintro e w' ⟨rfl, rfl⟩)
  go_wp2_with fail
  ((with_reducible refine (H5.out _).mono ?_); rintro e w' ⟨rfl, rfl⟩)
  go_wp2_with fail
  ((with_reducible refine (H4.out _).mono ?_); rintro e w' ⟨rfl, rfl⟩)
  go_wp2_with (refine store_row rfl 25 (.tmp 2) (.tmp 15) rfl w.heap.size rfl [.bool B0, .bool B1, .bool B2, .bool B3, .bool B5, .bool B4] rfl _ Try.underlying25 rfl info_fl (by simp [Value.oneCell']) HT.out ?_; intro Y hY hl; have HL := Lib.hid hl; have HY := Lib.hid (show Below w.heap.size w Y by rw [hY]; exact below_setCells (Nat.le_refl _) _ _ _ HB.out); clear hY hl)
  refine bodyPost_ret (results_cell rfl rfl HL.out) rfl ⟨rfl, HY.out⟩
end Go.Proofs.Ytplghmkicdpbfaa
