/- What package regs answers: the place of a byte, a byte put anew, rows of registers with one of them put anew. -/
import Derived.Test.YtbbegbaaefgikaaRegC
import Derived.Test.YtbbegbaaefgikaaArith
namespace Go.Proofs.Ytbbegbaaefgikaa
set_option maxRecDepth 100000
open Go.ChangeShapes Go.WideShapes Go.ChangeAt Go.RowKit

theorem there_any (r : Int) (w : World) : Calls Try.prog 27 #[.int .i64 r] w fun e w' => e = .returned (.bool (decide (0 ≤ r ∧ r ≤ 7))) ∧ w = w' := by
  by_cases h0 : 0 ≤ r
  · by_cases h7 : r ≤ 7
    · rw [show decide (0 ≤ r ∧ r ≤ 7) = true by simp [h0, h7]]
      have e0 : decide (0 ≤ r) = true := by simpa using h0
      have e7 : decide (r ≤ 7) = true := by simpa using h7
      clear h0 h7
      go_enter Try.func27, Try.ntmps27
      go_wp2
      go_ret
      exact ⟨rfl, rfl⟩
    · rw [show decide (0 ≤ r ∧ r ≤ 7) = false by simp [h7]]
      have e0 : decide (0 ≤ r) = true := by simpa using h0
      have e7 : decide (r ≤ 7) = false := by simpa using h7
      clear h0 h7
      go_enter Try.func27, Try.ntmps27
      go_wp2
      go_ret
      exact ⟨rfl, rfl⟩
  · rw [show decide (0 ≤ r ∧ r ≤ 7) = false by simp [h0]]
    have e0 : decide (0 ≤ r) = false := by simpa using h0
    clear h0
    go_enter Try.func27, Try.ntmps27
    go_wp2
    go_ret
    exact ⟨rfl, rfl⟩
theorem there_is {r : Int} {B : Bool} (h : decide (0 ≤ r ∧ r ≤ 7) = B) (w : World) : Calls Try.prog 27 #[.int .i64 r] w fun e w' => e = .returned (.bool B) ∧ w = w' := by
  subst h
  exact there_any r w
theorem home_any (j : Nat) (hj : j < 8) (w : World) : Calls Try.prog 29 #[.int .i64 (j : Int)] w fun e w' => e = .returned (.tuple #[.int .i64 ((j % 4 : Nat) : Int), .int .u64 (if j < 4 then 0 else 8)]) ∧ w = w' := by
  rcases (show j = 0 ∨ j = 1 ∨ j = 2 ∨ j = 3 ∨ j = 4 ∨ j = 5 ∨ j = 6 ∨ j = 7 by omega) with rfl | rfl | rfl | rfl | rfl | rfl | rfl | rfl
  · have a3 : bits .and .i64 0 3 = 0 := by decide +kernel
    show Calls _ _ #[.int .i64 0] _ _
    go_enter Try.func29, Try.ntmps29
    go_wp2
    go_ret2
    exact ⟨rfl, rfl⟩
  · have a3 : bits .and .i64 1 3 = 1 := by decide +kernel
    show Calls _ _ #[.int .i64 1] _ _
    go_enter Try.func29, Try.ntmps29
    go_wp2
    go_ret2
    exact ⟨rfl, rfl⟩
  · have a3 : bits .and .i64 2 3 = 2 := by decide +kernel
    show Calls _ _ #[.int .i64 2] _ _
    go_enter Try.func29, Try.ntmps29
    go_wp2
    go_ret2
    exact ⟨rfl, rfl⟩
  · have a3 : bits .and .i64 3 3 = 3 := by decide +kernel
    show Calls _ _ #[.int .i64 3] _ _
    go_enter Try.func29, Try.ntmps29
    go_wp2
    go_ret2
    exact ⟨rfl, rfl⟩
  · have a3 : bits .and .i64 4 3 = 0 := by decide +kernel
    show Calls _ _ #[.int .i64 4] _ _
    go_enter Try.func29, Try.ntmps29
    go_wp2
    go_ret2
    exact ⟨rfl, rfl⟩
  · have a3 : bits .and .i64 5 3 = 1 := by decide +kernel
    show Calls _ _ #[.int .i64 5] _ _
    go_enter Try.func29, Try.ntmps29
    go_wp2
    go_ret2
    exact ⟨rfl, rfl⟩
  · have a3 : bits .and .i64 6 3 = 2 := by decide +kernel
    show Calls _ _ #[.int .i64 6] _ _
    go_enter Try.func29, Try.ntmps29
    go_wp2
    go_ret2
    exact ⟨rfl, rfl⟩
  · have a3 : bits .and .i64 7 3 = 3 := by decide +kernel
    show Calls _ _ #[.int .i64 7] _ _
    go_enter Try.func29, Try.ntmps29
    go_wp2
    go_ret2
    exact ⟨rfl, rfl⟩
theorem cut_one (v : Int) : cut v 1 = v % 256 := rfl
/-- a byte of a register put anew -/
theorem patched_any (R v : Int) (hi : Bool) (r0 : 0 ≤ R) (r1 : R < 4294967296) (w : World) : Calls Try.prog 30 #[.int .u32 R, .int .u64 (if hi then 8 else 0), .int .u32 v] w fun e w' => e = .returned (.int .u32 (byteF R v hi)) ∧ w = w' := by
  obtain ⟨X, hX⟩ : ∃ X, v % 256 = X := ⟨_, rfl⟩
  have x0 : 0 ≤ X := by omega
  have x1 : X < 256 := by omega
  have HC := Lib.hid (fun u => cut_any v 1 u)
  rw [show cut v 1 = X from hX] at HC
  have w1 : IntKind.u32.wrap 255 = 255 := by decide
  have w2 : IntKind.u32.wrap 65280 = 65280 := by decide
  have w3 : IntKind.u32.wrap X = X := by rw [IntKind.wrap_u32']; omega
  have w4 : IntKind.u32.wrap (X * 256) = X * 256 := by rw [IntKind.wrap_u32']; omega
  cases hi with
  | false =>
    have b1 := bits_put0 R X r0 r1 x0 x1
    have HV := Lib.hid (show byteF R v false = R / 256 * 256 + X by rw [← hX]; rfl)
    clear hX
    show Calls _ _ #[.int .u32 R, .int .u64 0, .int .u32 v] _ _
    rw [HV.out]
    go_enter Try.func30, Try.ntmps30
    go_wp2_with (go_at_call 34; refine (HC.out _).mono ?_; rintro e w' ⟨rfl, rfl⟩)
    go_ret
    exact ⟨rfl, rfl⟩
  | true =>
    have b1 := bits_put8 R X r0 r1 x0 x1
    have HV := Lib.hid (show byteF R v true = R / 65536 * 65536 + X * 256 + R % 256 by rw [← hX]; rfl)
    clear hX
    show Calls _ _ #[.int .u32 R, .int .u64 8, .int .u32 v] _ _
    rw [HV.out]
    go_enter Try.func30, Try.ntmps30
    go_wp2_with (go_at_call 34; refine (HC.out _).mono ?_; rintro e w' ⟨rfl, rfl⟩)
    go_ret
    exact ⟨rfl, rfl⟩

def rowL_u32 (f : Nat → Int) : List Value := [.int .u32 (f 0), .int .u32 (f 1), .int .u32 (f 2), .int .u32 (f 3), .int .u32 (f 4), .int .u32 (f 5), .int .u32 (f 6), .int .u32 (f 7)]
theorem rowL_u32_at (f : Nat → Int) (i : Nat) (h : i < 8) : (rowL_u32 f)[i]? = some (.int .u32 (f i)) := by
  rcases (show i = 0 ∨ i = 1 ∨ i = 2 ∨ i = 3 ∨ i = 4 ∨ i = 5 ∨ i = 6 ∨ i = 7 by omega) with rfl | rfl | rfl | rfl | rfl | rfl | rfl | rfl <;> rfl
theorem rowL_u32_put (f : Nat → Int) (i : Nat) (h : i < 8) (v : Int) : (rowL_u32 f).toArray.setIfInBounds i (.int .u32 v) = (rowL_u32 (putN f i v)).toArray := by
  rcases (show i = 0 ∨ i = 1 ∨ i = 2 ∨ i = 3 ∨ i = 4 ∨ i = 5 ∨ i = 6 ∨ i = 7 by omega) with rfl | rfl | rfl | rfl | rfl | rfl | rfl | rfl <;> rfl
theorem rowL_u32_one (f : Nat → Int) : (rowL_u32 f).toArray.all (·.oneCell') = true := by simp [rowL_u32, Value.oneCell']
def rowZ_u32 : Array Value := #[.int .u32 0, .int .u32 0, .int .u32 0, .int .u32 0, .int .u32 0, .int .u32 0, .int .u32 0, .int .u32 0]
theorem info_row_u32 : (Try.prog.info? 23).map (·.size) = some 8 := by kernel_rfl
set_option maxRecDepth 100000 in
set_option maxHeartbeats 8000000 in
theorem with_u32_any (f : Nat → Int) (j : Nat) (hj : j < 8) (v : Int) (w : World) : Calls Try.prog 28 #[.agg (rowL_u32 f).toArray, .int .i64 (j : Int), .int .u32 v] w fun e w' => e = .returned (.agg (rowL_u32 (putN f j v)).toArray) ∧ Below w.heap.size w w' := by
  have hj8 : (j : Int) < 8 := by omega
  have HP := Lib.hid (rowL_u32_put f j hj v)
  have HO := Lib.hid (rowL_u32_one (putN f j v))
  have HA := Lib.hid (rowL_u32_at f j hj)
  go_enter Try.func28, Try.ntmps28
  go_upto_region 1 with fail
  obtain ⟨A, hA⟩ : ∃ A, w.heap.size + 1 = A := ⟨_, rfl⟩
  rw [hA]
  obtain ⟨W, hW⟩ : ∃ W, W = (w.alloc (.cells (rowL_u32 f).toArray 23)).alloc (.cells #[.int .u32 0, .int .u32 0, .int .u32 0, .int .u32 0, .int .u32 0, .int .u32 0, .int .u32 0, .int .u32 0] 23) := ⟨_, rfl⟩
  rw [← hW]
  obtain ⟨g1, g2, g3⟩ := heap_two hW
  rw [hA] at g2
  have hlt : w.heap.size < A := by omega
  have c0 : W.cell? ⟨w.heap.size, j, none⟩ = some (.int .u32 (f j)) := (cell_block g1 j).1.trans (by simpa using HA.out)
  have f0 := (cell_block g1 j).2
  obtain ⟨Y, hY⟩ : ∃ Y, Y = W.setCell ⟨w.heap.size, j, none⟩ (.int .u32 v) := ⟨_, rfl⟩
  have HYR := Lib.hid (show Y.rangeAt w.heap.size 0 (rowL_u32 (putN f j v)) by
    have h := block_setCell g1 j (.int .u32 v)
    rw [HP.out, ← hY] at h
    exact range_in13 h 0 _ rfl)
  have HYT := Lib.hid (show Y.there A 0 8 by
    have h := (other_setCell (Nat.ne_of_gt hlt) j (.int .u32 v)).trans g2
    rw [← hY] at h
    exact there_block h 0 8 (by decide))
  have HYB := Lib.hid (show Below w.heap.size w Y by rw [hY]; exact g3.setCell (Nat.le_refl _) _)
  have HLT := Lib.hid (Nat.le_of_lt hlt)
  clear hW g1 g2 g3 hA hlt
  go_upto_region 2 with fail
  rw [← hY]
  clear hY c0 f0
  go_wp2_with (first
    | (refine wpList_load_mid rfl 23 (.tmp 3) rfl w.heap.size 0 rfl (rowL_u32 (putN f j v)) _ HYR.out Try.underlying23 rfl info_row_u32 ?_)
    | (refine store_row rfl 23 (.tmp 6) (.tmp 10) rfl A rfl (rowL_u32 (putN f j v)) rfl _ Try.underlying23 rfl info_row_u32 HO.out HYT.out ?_; intro Z hZ hl; have HL := Lib.hid hl; have HZ := Lib.hid (show Below w.heap.size w Z by rw [hZ]; exact below_setCells HLT.out _ _ _ HYB.out); clear hZ hl))
  exact bodyPost_ret (results_cell rfl rfl HL.out) rfl ⟨rfl, HZ.out⟩

def rowL_u64 (f : Nat → Int) : List Value := [.int .u64 (f 0), .int .u64 (f 1), .int .u64 (f 2), .int .u64 (f 3), .int .u64 (f 4), .int .u64 (f 5), .int .u64 (f 6), .int .u64 (f 7)]
theorem rowL_u64_at (f : Nat → Int) (i : Nat) (h : i < 8) : (rowL_u64 f)[i]? = some (.int .u64 (f i)) := by
  rcases (show i = 0 ∨ i = 1 ∨ i = 2 ∨ i = 3 ∨ i = 4 ∨ i = 5 ∨ i = 6 ∨ i = 7 by omega) with rfl | rfl | rfl | rfl | rfl | rfl | rfl | rfl <;> rfl
theorem rowL_u64_put (f : Nat → Int) (i : Nat) (h : i < 8) (v : Int) : (rowL_u64 f).toArray.setIfInBounds i (.int .u64 v) = (rowL_u64 (putN f i v)).toArray := by
  rcases (show i = 0 ∨ i = 1 ∨ i = 2 ∨ i = 3 ∨ i = 4 ∨ i = 5 ∨ i = 6 ∨ i = 7 by omega) with rfl | rfl | rfl | rfl | rfl | rfl | rfl | rfl <;> rfl
theorem rowL_u64_one (f : Nat → Int) : (rowL_u64 f).toArray.all (·.oneCell') = true := by simp [rowL_u64, Value.oneCell']
def rowZ_u64 : Array Value := #[.int .u64 0, .int .u64 0, .int .u64 0, .int .u64 0, .int .u64 0, .int .u64 0, .int .u64 0, .int .u64 0]
theorem info_row_u64 : (Try.prog.info? 27).map (·.size) = some 8 := by kernel_rfl
set_option maxRecDepth 100000 in
set_option maxHeartbeats 8000000 in
theorem with_u64_any (f : Nat → Int) (j : Nat) (hj : j < 8) (v : Int) (w : World) : Calls Try.prog 31 #[.agg (rowL_u64 f).toArray, .int .i64 (j : Int), .int .u64 v] w fun e w' => e = .returned (.agg (rowL_u64 (putN f j v)).toArray) ∧ Below w.heap.size w w' := by
  have hj8 : (j : Int) < 8 := by omega
  have HP := Lib.hid (rowL_u64_put f j hj v)
  have HO := Lib.hid (rowL_u64_one (putN f j v))
  have HA := Lib.hid (rowL_u64_at f j hj)
  go_enter Try.func31, Try.ntmps31
  go_upto_region 1 with fail
  obtain ⟨A, hA⟩ : ∃ A, w.heap.size + 1 = A := ⟨_, rfl⟩
  rw [hA]
  obtain ⟨W, hW⟩ : ∃ W, W = (w.alloc (.cells (rowL_u64 f).toArray 27)).alloc (.cells #[.int .u64 0, .int .u64 0, .int .u64 0, .int .u64 0, .int .u64 0, .int .u64 0, .int .u64 0, .int .u64 0] 27) := ⟨_, rfl⟩
  rw [← hW]
  obtain ⟨g1, g2, g3⟩ := heap_two hW
  rw [hA] at g2
  have hlt : w.heap.size < A := by omega
  have c0 : W.cell? ⟨w.heap.size, j, none⟩ = some (.int .u64 (f j)) := (cell_block g1 j).1.trans (by simpa using HA.out)
  have f0 := (cell_block g1 j).2
  obtain ⟨Y, hY⟩ : ∃ Y, Y = W.setCell ⟨w.heap.size, j, none⟩ (.int .u64 v) := ⟨_, rfl⟩
  have HYR := Lib.hid (show Y.rangeAt w.heap.size 0 (rowL_u64 (putN f j v)) by
    have h := block_setCell g1 j (.int .u64 v)
    rw [HP.out, ← hY] at h
    exact range_in13 h 0 _ rfl)
  have HYT := Lib.hid (show Y.there A 0 8 by
    have h := (other_setCell (Nat.ne_of_gt hlt) j (.int .u64 v)).trans g2
    rw [← hY] at h
    exact there_block h 0 8 (by decide))
  have HYB := Lib.hid (show Below w.heap.size w Y by rw [hY]; exact g3.setCell (Nat.le_refl _) _)
  have HLT := Lib.hid (Nat.le_of_lt hlt)
  clear hW g1 g2 g3 hA hlt
  go_upto_region 2 with fail
  rw [← hY]
  clear hY c0 f0
  go_wp2_with (first
    | (refine wpList_load_mid rfl 27 (.tmp 3) rfl w.heap.size 0 rfl (rowL_u64 (putN f j v)) _ HYR.out Try.underlying27 rfl info_row_u64 ?_)
    | (refine store_row rfl 27 (.tmp 6) (.tmp 10) rfl A rfl (rowL_u64 (putN f j v)) rfl _ Try.underlying27 rfl info_row_u64 HO.out HYT.out ?_; intro Z hZ hl; have HL := Lib.hid hl; have HZ := Lib.hid (show Below w.heap.size w Z by rw [hZ]; exact below_setCells HLT.out _ _ _ HYB.out); clear hZ hl))
  exact bodyPost_ret (results_cell rfl rfl HL.out) rfl ⟨rfl, HZ.out⟩

end Go.Proofs.Ytbbegbaaefgikaa
