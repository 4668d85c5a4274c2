import Derived.Test.YtbbegbaaefgikaaRows
import Derived.ProofKit
import Derived.OpenShut
import Derived.BigRegion
import Derived.Lib.Hide
import Derived.Test.YtbbegbaaefgikaaKTE
namespace Go.Proofs.Ytbbegbaaefgikaa
open Go.ChangeShapes Go.WideShapes Go.ChangeAt Go.RowKit
set_option maxRecDepth 100000
theorem width_any (n : Int) (w : World) : Calls Try.prog 37 #[.int .i64 n] w fun e w' => e = .returned (.int .u64 (wid n)) ∧ w = w' := by
  by_cases h : n < 2
  · go_enter Try.func37, Try.ntmps37
    go_wp2
    go_ret
    exact ⟨by simp [wid, h], rfl⟩
  · by_cases h4 : n < 4
    all_goals
      go_enter Try.func37, Try.ntmps37
      go_wp2
      go_ret
      exact ⟨by rw [wid, if_neg (by omega)]; first | rw [if_pos (by omega)]; rfl | rw [if_neg (by omega)]; rfl, rfl⟩
theorem cut_any (v n : Int) (w : World) : Calls Try.prog 34 #[.int .u32 v, .int .i64 n] w fun e w' => e = .returned (.int .u32 (cut v n)) ∧ w = w' := by
  have hl := wid_lo n
  have hh := wid_hi n
  have hE := Lib.hid (cut_eq v n)
  go_enter Try.func34, Try.ntmps34
  go_wp2_with (go_at_call 37; refine (width_any _ _).mono ?_; rintro e w' ⟨rfl, rfl⟩)
  go_ret
  exact ⟨by rw [← hE.out]; rfl, rfl⟩
set_option maxRecDepth 100000
theorem there_any (r : Int) (w : World) : Calls Try.prog 27 #[.int .i64 r] w fun e w' => e = .returned (.bool (decide (0 ≤ r ∧ r ≤ 7))) ∧ w = w' := by
  by_cases h0 : 0 ≤ r
  · by_cases h7 : r ≤ 7
    · rw [show decide (0 ≤ r ∧ r ≤ 7) = true by simp [h0, h7]]
      have e0 : decide (0 ≤ r) = true := by simpa using h0
      have e7 : decide (r ≤ 7) = true := by simpa using h7
      clear h0 h7
      go_enter Try.func27, Try.ntmps27
      go_wp2
      go_ret
      exact ⟨rfl, rfl⟩
    · rw [show decide (0 ≤ r ∧ r ≤ 7) = false by simp [h7]]
      have e0 : decide (0 ≤ r) = true := by simpa using h0
      have e7 : decide (r ≤ 7) = false := by simpa using h7
      clear h0 h7
      go_enter Try.func27, Try.ntmps27
      go_wp2
      go_ret
      exact ⟨rfl, rfl⟩
  · rw [show decide (0 ≤ r ∧ r ≤ 7) = false by simp [h0]]
    have e0 : decide (0 ≤ r) = false := by simpa using h0
    clear h0
    go_enter Try.func27, Try.ntmps27
    go_wp2
    go_ret
    exact ⟨rfl, rfl⟩
theorem there_is {r : Int} {B : Bool} (h : decide (0 ≤ r ∧ r ≤ 7) = B) (w : World) : Calls Try.prog 27 #[.int .i64 r] w fun e w' => e = .returned (.bool B) ∧ w = w' := by
  subst h
  exact there_any r w
theorem home_any (j : Nat) (hj : j < 8) (w : World) : Calls Try.prog 29 #[.int .i64 (j : Int)] w fun e w' => e = .returned (.tuple #[.int .i64 ((j % 4 : Nat) : Int), .int .u64 (if j < 4 then 0 else 8)]) ∧ w = w' := by
  rcases (show j = 0 ∨ j = 1 ∨ j = 2 ∨ j = 3 ∨ j = 4 ∨ j = 5 ∨ j = 6 ∨ j = 7 by omega) with rfl | rfl | rfl | rfl | rfl | rfl | rfl | rfl
  · have a3 : bits .and .i64 0 3 = 0 := by decide +kernel
    show Calls _ _ #[.int .i64 0] _ _
    go_enter Try.func29, Try.ntmps29
    go_wp2
    go_ret2
    exact ⟨rfl, rfl⟩
  · have a3 : bits .and .i64 1 3 = 1 := by decide +kernel
    show Calls _ _ #[.int .i64 1] _ _
    go_enter Try.func29, Try.ntmps29
    go_wp2
    go_ret2
    exact ⟨rfl, rfl⟩
  · have a3 : bits .and .i64 2 3 = 2 := by decide +kernel
    show Calls _ _ #[.int .i64 2] _ _
    go_enter Try.func29, Try.ntmps29
    go_wp2
    go_ret2
    exact ⟨rfl, rfl⟩
  · have a3 : bits .and .i64 3 3 = 3 := by decide +kernel
    show Calls _ _ #[.int .i64 3] _ _
    go_enter Try.func29, Try.ntmps29
    go_wp2
    go_ret2
    exact ⟨rfl, rfl⟩
  · have a3 : bits .and .i64 4 3 = 0 := by decide +kernel
    show Calls _ _ #[.int .i64 4] _ _
    go_enter Try.func29, Try.ntmps29
    go_wp2
    go_ret2
    exact ⟨rfl, rfl⟩
  · have a3 : bits .and .i64 5 3 = 1 := by decide +kernel
    show Calls _ _ #[.int .i64 5] _ _
    go_enter Try.func29, Try.ntmps29
    go_wp2
    go_ret2
    exact ⟨rfl, rfl⟩
  · have a3 : bits .and .i64 6 3 = 2 := by decide +kernel
    show Calls _ _ #[.int .i64 6] _ _
    go_enter Try.func29, Try.ntmps29
    go_wp2
    go_ret2
    exact ⟨rfl, rfl⟩
  · have a3 : bits .and .i64 7 3 = 3 := by decide +kernel
    show Calls _ _ #[.int .i64 7] _ _
    go_enter Try.func29, Try.ntmps29
    go_wp2
    go_ret2
    exact ⟨rfl, rfl⟩
theorem patched_any (R v : Int) (hi : Bool) (r0 : 0 ≤ R) (r1 : R < 4294967296) (w : World) : Calls Try.prog 30 #[.int .u32 R, .int .u64 (if hi then 8 else 0), .int .u32 v] w fun e w' => e = .returned (.int .u32 (byteF R v hi)) ∧ w = w' := by
  obtain ⟨X, hX⟩ : ∃ X, v % 256 = X := ⟨_, rfl⟩
  have x0 : 0 ≤ X := by omega
  have x1 : X < 256 := by omega
  have HC := Lib.hid (fun u => cut_any v 1 u)
  rw [show cut v 1 = X from hX] at HC
  have w1 : IntKind.u32.wrap 255 = 255 := by decide
  have w2 : IntKind.u32.wrap 65280 = 65280 := by decide
  have w3 : IntKind.u32.wrap X = X := by rw [IntKind.wrap_u32']; omega
  have w4 : IntKind.u32.wrap (X * 256) = X * 256 := by rw [IntKind.wrap_u32']; omega
  cases hi with
  | false =>
    have b1 := bits_put0 R X r0 r1 x0 x1
    have HV := Lib.hid (show byteF R v false = R / 256 * 256 + X by rw [← hX]; rfl)
    clear hX
    show Calls _ _ #[.int .u32 R, .int .u64 0, .int .u32 v] _ _
    rw [HV.out]
    go_enter Try.func30, Try.ntmps30
    go_wp2_with (go_at_call 34; refine (HC.out _).mono ?_; rintro e w' ⟨rfl, rfl⟩)
    go_ret
    exact ⟨rfl, rfl⟩
  | true =>
    have b1 := bits_put8 R X r0 r1 x0 x1
    have HV := Lib.hid (show byteF R v true = R / 65536 * 65536 + X * 256 + R % 256 by rw [← hX]; rfl)
    clear hX
    show Calls _ _ #[.int .u32 R, .int .u64 8, .int .u32 v] _ _
    rw [HV.out]
    go_enter Try.func30, Try.ntmps30
    go_wp2_with (go_at_call 34; refine (HC.out _).mono ?_; rintro e w' ⟨rfl, rfl⟩)
    go_ret
    exact ⟨rfl, rfl⟩
def rowL_u32 (f : Nat → Int) : List Value := [.int .u32 (f 0), .int .u32 (f 1), .int .u32 (f 2), .int .u32 (f 3), .int .u32 (f 4), .int .u32 (f 5), .int .u32 (f 6), .int .u32 (f 7)]
theorem rowL_u32_at (f : Nat → Int) (i : Nat) (h : i < 8) : (rowL_u32 f)[i]? = some (.int .u32 (f i)) := by
  rcases (show i = 0 ∨ i = 1 ∨ i = 2 ∨ i = 3 ∨ i = 4 ∨ i = 5 ∨ i = 6 ∨ i = 7 by omega) with rfl | rfl | rfl | rfl | rfl | rfl | rfl | rfl <;> rfl
theorem rowL_u32_put (f : Nat → Int) (i : Nat) (h : i < 8) (v : Int) : (rowL_u32 f).toArray.setIfInBounds i (.int .u32 v) = (rowL_u32 (putN f i v)).toArray := by
  rcases (show i = 0 ∨ i = 1 ∨ i = 2 ∨ i = 3 ∨ i = 4 ∨ i = 5 ∨ i = 6 ∨ i = 7 by omega) with rfl | rfl | rfl | rfl | rfl | rfl | rfl | rfl <;> rfl
theorem rowL_u32_one (f : Nat → Int) : (rowL_u32 f).toArray.all (·.oneCell') = true := by simp [rowL_u32, Value.oneCell']
theorem info_row_u32 : (Try.prog.info? 23).map (·.size) = some 8 := by kernel_rfl
set_option maxRecDepth 100000
set_option maxHeartbeats 8000000
theorem with_u32_any (f : Nat → Int) (j : Nat) (hj : j < 8) (v : Int) (w : World) : Calls Try.prog 28 #[.agg (rowL_u32 f).toArray, .int .i64 (j : Int), .int .u32 v] w fun e w' => e = .returned (.agg (rowL_u32 (putN f j v)).toArray) ∧ Below w.heap.size w w' := by
  have hj8 : (j : Int) < 8 := by omega
  have HP := Lib.hid (rowL_u32_put f j hj v)
  have HO := Lib.hid (rowL_u32_one (putN f j v))
  have HA := Lib.hid (rowL_u32_at f j hj)
  go_enter Try.func28, Try.ntmps28
  go_upto_region 1 with fail
  obtain ⟨A, hA⟩ : ∃ A, w.heap.size + 1 = A := ⟨_, rfl⟩
  rw [hA]
  obtain ⟨W, hW⟩ : ∃ W, W = (w.alloc (.cells (rowL_u32 f).toArray 23)).alloc (.cells #[.int .u32 0, .int .u32 0, .int .u32 0, .int .u32 0, .int .u32 0, .int .u32 0, .int .u32 0, .int .u32 0] 23) := ⟨_, rfl⟩
  rw [← hW]
  obtain ⟨g1, g2, g3⟩ := heap_two hW
  rw [hA] at g2
  have hlt : w.heap.size < A := by omega
  have c0 : W.cell? ⟨w.heap.size, j, none⟩ = some (.int .u32 (f j)) := (cell_block g1 j).1.trans (by simpa using HA.out)
  have f0 := (cell_block g1 j).2
  obtain ⟨Y, hY⟩ : ∃ Y, Y = W.setCell ⟨w.heap.size, j, none⟩ (.int .u32 v) := ⟨_, rfl⟩
  have HYR := Lib.hid (show Y.rangeAt w.heap.size 0 (rowL_u32 (putN f j v)) by
    have h := block_setCell g1 j (.int .u32 v)
    rw [HP.out, ← hY] at h
    exact range_in13 h 0 _ rfl)
  have HYT := Lib.hid (show Y.there A 0 8 by
    have h := (other_setCell (Nat.ne_of_gt hlt) j (.int .u32 v)).trans g2
    rw [← hY] at h
    exact there_block h 0 8 (by decide))
  have HYB := Lib.hid (show Below w.heap.size w Y by rw [hY]; exact g3.setCell (Nat.le_refl _) _)
  have HLT := Lib.hid (Nat.le_of_lt hlt)
  clear hW g1 g2 g3 hA hlt
  go_upto_region 2 with fail
  rw [← hY]
  clear hY c0 f0
  go_wp2_with (first
    | (refine wpList_load_mid rfl 23 (.tmp 3) rfl w.heap.size 0 rfl (rowL_u32 (putN f j v)) _ HYR.out Try.underlying23 rfl info_row_u32 ?_)
    | (refine store_row rfl 23 (.tmp 6) (.tmp 10) rfl A rfl (rowL_u32 (putN f j v)) rfl _ Try.underlying23 rfl info_row_u32 HO.out HYT.out ?_; intro Z hZ hl; have HL := Lib.hid hl; have HZ := Lib.hid (show Below w.heap.size w Z by rw [hZ]; exact below_setCells HLT.out _ _ _ HYB.out); clear hZ hl))
  exact bodyPost_ret (results_cell rfl rfl HL.out) rfl ⟨rfl, HZ.out⟩
set_option maxRecDepth 512
def rowL_u64 (f : Nat → Int) : List Value := [.int .u64 (f 0), .int .u64 (f 1), .int .u64 (f 2), .int .u64 (f 3), .int .u64 (f 4), .int .u64 (f 5), .int .u64 (f 6), .int .u64 (f 7)]
theorem rowL_u64_at (f : Nat → Int) (i : Nat) (h : i < 8) : (rowL_u64 f)[i]? = some (.int .u64 (f i)) := by
  rcases (show i = 0 ∨ i = 1 ∨ i = 2 ∨ i = 3 ∨ i = 4 ∨ i = 5 ∨ i = 6 ∨ i = 7 by omega) with rfl | rfl | rfl | rfl | rfl | rfl | rfl | rfl <;> rfl
theorem rowL_u64_put (f : Nat → Int) (i : Nat) (h : i < 8) (v : Int) : (rowL_u64 f).toArray.setIfInBounds i (.int .u64 v) = (rowL_u64 (putN f i v)).toArray := by
  rcases (show i = 0 ∨ i = 1 ∨ i = 2 ∨ i = 3 ∨ i = 4 ∨ i = 5 ∨ i = 6 ∨ i = 7 by omega) with rfl | rfl | rfl | rfl | rfl | rfl | rfl | rfl <;> rfl
theorem rowL_u64_one (f : Nat → Int) : (rowL_u64 f).toArray.all (·.oneCell') = true := by simp [rowL_u64, Value.oneCell']
theorem info_row_u64 : (Try.prog.info? 27).map (·.size) = some 8 := by kernel_rfl
set_option maxRecDepth 100000
theorem with_u64_any (f : Nat → Int) (j : Nat) (hj : j < 8) (v : Int) (w : World) : Calls Try.prog 31 #[.agg (rowL_u64 f).toArray, .int .i64 (j : Int), .int .u64 v] w fun e w' => e = .returned (.agg (rowL_u64 (putN f j v)).toArray) ∧ Below w.heap.size w w' := by
  have hj8 : (j : Int) < 8 := by omega
  have HP := Lib.hid (rowL_u64_put f j hj v)
  have HO := Lib.hid (rowL_u64_one (putN f j v))
  have HA := Lib.hid (rowL_u64_at f j hj)
  go_enter Try.func31, Try.ntmps31
  go_upto_region 1 with fail
  obtain ⟨A, hA⟩ : ∃ A, w.heap.size + 1 = A := ⟨_, rfl⟩
  rw [hA]
  obtain ⟨W, hW⟩ : ∃ W, W = (w.alloc (.cells (rowL_u64 f).toArray 27)).alloc (.cells #[.int .u64 0, .int .u64 0, .int .u64 0, .int .u64 0, .int .u64 0, .int .u64 0, .int .u64 0, .int .u64 0] 27) := ⟨_, rfl⟩
  rw [← hW]
  obtain ⟨g1, g2, g3⟩ := heap_two hW
  rw [hA] at g2
  have hlt : w.heap.size < A := by omega
  have c0 : W.cell? ⟨w.heap.size, j, none⟩ = some (.int .u64 (f j)) := (cell_block g1 j).1.trans (by simpa using HA.out)
  have f0 := (cell_block g1 j).2
  obtain ⟨Y, hY⟩ : ∃ Y, Y = W.setCell ⟨w.heap.size, j, none⟩ (.int .u64 v) := ⟨_, rfl⟩
  have HYR := Lib.hid (show Y.rangeAt w.heap.size 0 (rowL_u64 (putN f j v)) by
    have h := block_setCell g1 j (.int .u64 v)
    rw [HP.out, ← hY] at h
    exact range_in13 h 0 _ rfl)
  have HYT := Lib.hid (show Y.there A 0 8 by
    have h := (other_setCell (Nat.ne_of_gt hlt) j (.int .u64 v)).trans g2
    rw [← hY] at h
    exact there_block h 0 8 (by decide))
  have HYB := Lib.hid (show Below w.heap.size w Y by rw [hY]; exact g3.setCell (Nat.le_refl _) _)
  have HLT := Lib.hid (Nat.le_of_lt hlt)
  clear hW g1 g2 g3 hA hlt
  go_upto_region 2 with fail
  rw [← hY]
  clear hY c0 f0
  go_wp2_with (first
    | (refine wpList_load_mid rfl 27 (.tmp 3) rfl w.heap.size 0 rfl (rowL_u64 (putN f j v)) _ HYR.out Try.underlying27 rfl info_row_u64 ?_)
    | (refine store_row rfl 27 (.tmp 6) (.tmp 10) rfl A rfl (rowL_u64 (putN f j v)) rfl _ Try.underlying27 rfl info_row_u64 HO.out HYT.out ?_; intro Z hZ hl; have HL := Lib.hid hl; have HZ := Lib.hid (show Below w.heap.size w Z by rw [hZ]; exact below_setCells HLT.out _ _ _ HYB.out); clear hZ hl))
  exact bodyPost_ret (results_cell rfl rfl HL.out) rfl ⟨rfl, HZ.out⟩
set_option maxRecDepth 100000
theorem get_any : GetC 19 := by
  intro s o hs d0 d1 w
  obtain ⟨k, r, b, i, c, d⟩ := o
  dsimp only at d0 d1
  have HS := Lib.hid hs
  clear hs
  obtain ⟨B, hB⟩ : ∃ B, decide (0 ≤ r ∧ r ≤ 7) = B := ⟨_, rfl⟩
  have HIN := Lib.hid (there_is hB)
  obtain ⟨G, hG⟩ : ∃ G, getG s ⟨k, r, b, i, c, d⟩ = G := ⟨_, rfl⟩
  rw [hG]
  have HG := Lib.hid (show (if 0 ≤ r ∧ r ≤ 7 then (if k = 4 then d else if 0 ≤ r ∧ r ≤ 7 then (if k = 1 then s.r r.toNat else if k = 2 then s.r (r % 4).toNat / (if r < 4 then 1 else 256) % 256 else if k = 5 then s.x r.toNat else 0) else 0) else 0) = G from hG)
  have HB := Lib.hid hB
  clear hB hG
  unfold staV opV
  go_enter Try.func19, Try.ntmps19
  go_upto_region 1 with fail
  obtain ⟨W, hW⟩ : ∃ W, W = (w.alloc (.cells (staL s).toArray 29)).alloc (.cells #[.int .i64 k, .int .i64 r, .int .i64 b, .int .i64 i, .int .i64 c, .int .u32 d] 32) := ⟨_, rfl⟩
  rw [← hW]
  obtain ⟨hS, hO, hbel⟩ := heap_two hW
  have HBEL := Lib.hid hbel
  have k0 : W.cell? ⟨w.heap.size + 1, 0, none⟩ = some (.int .i64 k) := (cell_block hO 0).1
  have k1 : W.cell? ⟨w.heap.size + 1, 1, none⟩ = some (.int .i64 r) := (cell_block hO 1).1
  have k5 : W.cell? ⟨w.heap.size + 1, 5, none⟩ = some (.int .u32 d) := (cell_block hO 5).1
  have HST := Lib.hid hS
  clear hW hS hO hbel
  go_wp2_with fail
  ((with_reducible refine (HIN.out _).mono ?_); rintro e w' ⟨rfl, rfl⟩)
  cases B with
  | false =>
    have HV := Lib.hid (show G = 0 by rw [← HG.out]; exact if_neg (of_decide_eq_false HB.out))
    go_wp2_with fail
    go_ret
    exact ⟨by rw [HV.out]; rfl, HBEL.out⟩
  | true =>
    have hr := of_decide_eq_true HB.out
    obtain ⟨j, rfl⟩ := Int.eq_ofNat_of_zero_le hr.1
    have hj : j < 8 := by omega
    have HG := Lib.hid ((if_pos hr).symm.trans HG.out)
    have hj8 : (j : Int) < 8 := by omega
    by_cases h4 : k = 4
    · subst h4
      have HV := Lib.hid (show G = d by rw [← HG.out, if_pos rfl])
      clear hr
      go_wp2_with fail
      go_ret
      exact ⟨by rw [HV.out]; rfl, HBEL.out⟩
    have e4 : (k == 4) = false := by simpa using h4
    have HG := Lib.hid ((if_neg h4).symm.trans HG.out)
    have HG := Lib.hid ((if_pos hr).symm.trans HG.out)
    clear hr h4
    by_cases h1 : k = 1
    · subst h1
      have hc : W.cell? ⟨w.heap.size, j, none⟩ = some (.int .u32 (s.r j)) := (cell_block HST.out j).1.trans (by simpa using sta_r s j hj)
      have HV := Lib.hid (show G = s.r j by rw [← HG.out, if_pos rfl]; rfl)
      have hb := HS.out.r j hj
      obtain ⟨v, hv⟩ : ∃ v, s.r j = v := ⟨_, rfl⟩
      rw [hv] at hc hb HV
      obtain ⟨b0, b1⟩ := hb
      clear hv
      go_wp2_with fail
      go_ret
      exact ⟨by rw [HV.out]; rfl, HBEL.out⟩
    have e1 : (k == 1) = false := by simpa using h1
    by_cases h2 : k = 2
    · subst h2
      have HH := Lib.hid (fun u => home_any j hj u)
      obtain ⟨m, hm⟩ : ∃ m, j % 4 = m := ⟨_, rfl⟩
      have m4 : m < 8 := by omega
      have m8 : (m : Int) < 8 := by omega
      have hc : W.cell? ⟨w.heap.size, m, none⟩ = some (.int .u32 (s.r m)) := (cell_block HST.out m).1.trans (by simpa using sta_r s m m4)
      have HG := Lib.hid ((if_neg h1).symm.trans HG.out)
      have HG := Lib.hid ((if_pos rfl).symm.trans HG.out)
      rw [hm] at HH
      rw [show ((j : Int) % 4).toNat = m by omega] at HG
      obtain ⟨v, hv⟩ : ∃ v, s.r m = v := ⟨_, rfl⟩
      have hb := HS.out.r m m4
      rw [hv] at hc hb HG
      obtain ⟨b0, b1⟩ := hb
      clear hv hm h1 hj8
      by_cases hlo : j < 4
      · rw [if_pos hlo] at HH
        rw [if_pos (show (j : Int) < 4 by omega), Int.ediv_one] at HG
        have HC := Lib.hid (fun u => cut_any v 1 u)
        rw [show cut v 1 = G from HG.out] at HC
        have g0 : 0 ≤ G := by rw [← HG.out]; omega
        have g1 : G < 256 := by rw [← HG.out]; omega
        clear hlo
        go_wp2_with fail
        ((with_reducible refine (HH.out _).mono ?_); rintro e w' ⟨rfl, rfl⟩)
        go_wp2_with (go_at_call 34; refine (HC.out _).mono ?_; rintro e w' ⟨rfl, rfl⟩)
        go_ret
        exact ⟨rfl, HBEL.out⟩
      · rw [if_neg hlo] at HH
        rw [if_neg (show ¬ (j : Int) < 4 by omega)] at HG
        have HC := Lib.hid (fun u => cut_any (v / 256) 1 u)
        rw [show cut (v / 256) 1 = G from HG.out] at HC
        have g0 : 0 ≤ G := by rw [← HG.out]; omega
        have g1 : G < 256 := by rw [← HG.out]; omega
        clear hlo
        go_wp2_with fail
        ((with_reducible refine (HH.out _).mono ?_); rintro e w' ⟨rfl, rfl⟩)
        go_wp2_with (go_at_call 34; refine (HC.out _).mono ?_; rintro e w' ⟨rfl, rfl⟩)
        go_ret
        exact ⟨rfl, HBEL.out⟩
    have e2 : (k == 2) = false := by simpa using h2
    by_cases h5 : k = 5
    · subst h5
      have hc : W.cell? ⟨w.heap.size, 15 + j, none⟩ = some (.int .u64 (s.x j)) := (cell_block HST.out (15 + j)).1.trans (by simpa using sta_x s j hj)
      have HV := Lib.hid (show G = s.x j by rw [← HG.out, if_neg h1, if_neg h2, if_pos rfl]; rfl)
      clear h1 h2
      go_wp2_with fail
      go_ret
      exact ⟨by rw [HV.out]; rfl, HBEL.out⟩
    have e5 : (k == 5) = false := by simpa using h5
    have HV := Lib.hid (show G = 0 by rw [← HG.out, if_neg h1, if_neg h2, if_neg h5])
    clear h1 h2 h5
    go_wp2_with fail
    go_ret
    exact ⟨by rw [HV.out]; rfl, HBEL.out⟩
set_option maxRecDepth 100000
set_option maxRecDepth 512
theorem get_regN (s : Sta) (i : Int) : getG s (⟨1, i, 0, 0, 0, 0⟩ : Opd) = regN s i := by
  unfold getG getF regN
  by_cases h : 0 ≤ i ∧ i ≤ 7
  · rw [if_pos h, if_pos h, if_neg (show ¬ (1 : Int) = 4 by decide), if_pos h, if_pos rfl]
  · rw [if_neg h, if_neg h]
set_option maxRecDepth 100000
theorem register_any (s : Sta) (i : Int) (hs : StaOk s) (w : World) : Calls Try.prog 10 #[staV s, .int .i64 i] w fun e w' => e = .returned (.int .u32 (regN s i)) ∧ Below w.heap.size w w' := by
  have hlo := regN_lo hs i
  have H := fun u => get_any s (⟨1, i, 0, 0, 0, 0⟩ : Opd) hs (Int.le_refl _) (by show (0 : Int) < _; decide) u
  obtain ⟨V, hV⟩ : ∃ V, regN s i = V := ⟨_, rfl⟩
  rw [get_regN, hV, show opV (⟨1, i, 0, 0, 0, 0⟩ : Opd) = .agg #[.int .i64 1, .int .i64 i, .int .i64 0, .int .i64 0, .int .i64 0, .int .u32 0] from rfl, show staV s = .agg (staL s).toArray from rfl] at H
  rw [hV] at hlo ⊢
  obtain ⟨v0, v1⟩ := hlo
  have H := Lib.hid H
  clear hs hV
  unfold staV
  go_enter Try.func10, Try.ntmps10
  go_upto_region 1 with fail
  obtain ⟨W, hW⟩ : ∃ W, W = w.alloc (.cells (staL s).toArray 29) := ⟨_, rfl⟩
  rw [← hW]
  have hb : W.heap[w.heap.size]? = some (.cells (staL s).toArray 29 (0, 0)) := by rw [hW]; show (w.heap.push _)[w.heap.size]? = _; simp
  have HB := Lib.hid (show Below w.heap.size w W by rw [hW]; exact below_last (Below.refl _ _) _)
  have HR := Lib.hid (range_in13 hb 0 (staL s) rfl)
  clear hb hW
  go_wp2_with (refine wpList_load_mid rfl 29 (.tmp 2) rfl w.heap.size 0 rfl (staL s) _ HR.out Try.underlying29 rfl info_sta ?_)
  ((with_reducible refine (H.out _).mono ?_); rintro e w1 ⟨rfl, b1⟩)
  have HB1 := Lib.hid (below_step HB.out b1)
  clear b1
  go_wp2_with fail
  go_ret
  exact ⟨rfl, HB1.out⟩
set_option maxRecDepth 512
theorem of_land (x y c d : Int) : ((x + y * (c % 4294967296) % 4294967296) % 4294967296 + d) % 4294967296 = (d + x + y * c) % 4294967296 := by
  rw [mul_wrap]
  generalize y * c = z
  omega
set_option maxRecDepth 100000
theorem of_any (s : Sta) (o : Opd) (hs : StaOk s) (w : World) : Calls Try.prog 6 #[staV s, opV o] w fun e w' => e = .returned (.int .u32 (ofF s o)) ∧ Below w.heap.size w w' := by
  obtain ⟨k, r, b, i, c, d⟩ := o
  have H1 := fun u => register_any s b hs u
  have H2 := fun u => register_any s i hs u
  obtain ⟨x, hx⟩ : ∃ x, regN s b = x := ⟨_, rfl⟩
  obtain ⟨y, hy⟩ : ∃ y, regN s i = y := ⟨_, rfl⟩
  have hA : ofF s ⟨k, r, b, i, c, d⟩ = ((x + y * (c % 4294967296) % 4294967296) % 4294967296 + d) % 4294967296 := by
    rw [of_land, ← hx, ← hy]
    rfl
  rw [hA]
  rw [hx, show staV s = .agg (staL s).toArray from rfl] at H1
  rw [hy, show staV s = .agg (staL s).toArray from rfl] at H2
  clear hx hy hA hs
  obtain ⟨C, hC⟩ : ∃ C, c % 4294967296 = C := ⟨_, rfl⟩
  have wC := IntKind.wrap_u32' c
  rw [hC] at wC ⊢
  obtain ⟨D, hD⟩ : ∃ D, y * C % 4294967296 = D := ⟨_, rfl⟩
  have wD := IntKind.wrap_u32' (y * C)
  rw [hD] at wD ⊢
  obtain ⟨E, hE⟩ : ∃ E, (x + D) % 4294967296 = E := ⟨_, rfl⟩
  have wE := IntKind.wrap_u32' (x + D)
  rw [hE] at wE ⊢
  obtain ⟨A, hA⟩ : ∃ A, (E + d) % 4294967296 = A := ⟨_, rfl⟩
  have wA := IntKind.wrap_u32' (E + d)
  rw [hA] at wA ⊢
  clear hC hD hE hA
  have H1 := Lib.hid H1
  have H2 := Lib.hid H2
  unfold staV opV
  go_enter Try.func6, Try.ntmps6
  go_upto_region 1 with fail
  obtain ⟨W, hW⟩ : ∃ W, W = (w.alloc (.cells (staL s).toArray 29)).alloc (.cells #[.int .i64 k, .int .i64 r, .int .i64 b, .int .i64 i, .int .i64 c, .int .u32 d] 32) := ⟨_, rfl⟩
  rw [← hW]
  have hbel := (heap_two hW).2.2
  have HB := Lib.hid hbel
  have HRW := fun u hu => rng_two (o := ⟨k, r, b, i, c, d⟩) hW (u := u) hu
  have HRS := Lib.hid (show ∀ u, Below W.heap.size W u → u.rangeAt w.heap.size 0 (staL s) from fun u hu => (HRW u hu).1)
  have HRO := Lib.hid (show ∀ u, Below W.heap.size W u → ∀ (j : Nat) (v : Value), (opL' ⟨k, r, b, i, c, d⟩)[j]? = some v → u.cell? ⟨w.heap.size + 1, j, none⟩ = some v from fun u hu j v hj => by have h := (HRW u hu).2 j v hj; rwa [Nat.zero_add] at h)
  clear HRW hW hbel
  have hne := class_const (C := fun u => Below W.heap.size W u) (Below.refl W.heap.size W)
  refine wp_region_quietC (fun u => Below W.heap.size W u) (by kernel_rfl) (by kernel_rfl) ((Below.refl _ _).drew) ?_
  go_big_quiet_want; refine quietC_load 29 (.tmp 2) w.heap.size 0 rfl (staL s) _ HRS.out Try.underlying29 rfl info_sta ?_; go_big_quiet_op; go_big_quiet_on
  go_big_quiet_want; go_big_quiet_op; go_big_quiet_on
  go_big_quiet_want; refine quietC_read 3 (.tmp 6) (.int .i64 b) (fun u hu => by have := HRO.out u hu 2 _ rfl; simp [Act.eval, go_sem, this]) ?_; go_big_quiet_op; go_big_quiet_on
  go_big_quiet_want; refine quietC_call 10 #[.tmp 5, .tmp 7] _ #[.agg (staL s).toArray, .int .i64 b] (.int .u32 x) (fun u _ => by simp [Act.eval, go_sem]) (fun u hu => (H1.out u).mono fun _ _ ⟨h1, h2⟩ => ⟨h1, below_step hu h2⟩) ?_; go_big_quiet_op; go_big_quiet_on
  go_big_quiet_want; refine quietC_load 29 (.tmp 2) w.heap.size 0 rfl (staL s) _ HRS.out Try.underlying29 rfl info_sta ?_; go_big_quiet_op; go_big_quiet_on
  go_big_quiet_want; go_big_quiet_op; go_big_quiet_on
  go_big_quiet_want; refine quietC_read 3 (.tmp 10) (.int .i64 i) (fun u hu => by have := HRO.out u hu 3 _ rfl; simp [Act.eval, go_sem, this]) ?_; go_big_quiet_op; go_big_quiet_on
  go_big_quiet_want; refine quietC_call 10 #[.tmp 9, .tmp 11] _ #[.agg (staL s).toArray, .int .i64 i] (.int .u32 y) (fun u _ => by simp [Act.eval, go_sem]) (fun u hu => (H2.out u).mono fun _ _ ⟨h1, h2⟩ => ⟨h1, below_step hu h2⟩) ?_; go_big_quiet_op; go_big_quiet_on
  go_big_quiet_want; go_big_quiet_op; go_big_quiet_on
  go_big_quiet_want; refine quietC_read 3 (.tmp 13) (.int .i64 c) (fun u hu => by have := HRO.out u hu 4 _ rfl; simp [Act.eval, go_sem, this]) ?_; go_big_quiet_op; go_big_quiet_on
  go_big_quiet_want; refine quietC_val _ (.int .u32 C) (fun u _ => by simp [execOp, Act.eval, go_sem, wC]) ?_; go_big_quiet_op; go_big_quiet_on
  go_big_quiet_want; refine quietC_val _ (.int .u32 D) (fun u _ => by simp [execOp, Act.eval, go_sem, wD]) ?_; go_big_quiet_op; go_big_quiet_on
  go_big_quiet_want; refine quietC_val _ (.int .u32 E) (fun u _ => by simp [execOp, Act.eval, go_sem, wE]) ?_; go_big_quiet_op; go_big_quiet_on
  go_big_quiet_want; go_big_quiet_op; go_big_quiet_on
  go_big_quiet_want; refine quietC_read 22 (.tmp 18) (.int .u32 d) (fun u hu => by have := HRO.out u hu 5 _ rfl; simp [Act.eval, go_sem, this]) ?_; go_big_quiet_op; go_big_quiet_on
  go_big_quiet_want; refine quietC_val _ (.int .u32 A) (fun u _ => by simp [execOp, Act.eval, go_sem, wA]) ?_; go_big_quiet_op; go_big_quiet_on
  go_big_quiet_want; go_big_quiet_op; go_big_quiet_on
  refine wpQuiet_nil ?_
  intro w5 hw5
  have HW5 := Lib.hid (below_step HB.out hw5)
  clear hw5
  go_wp2_with fail
  go_ret
  exact ⟨rfl, HW5.out⟩
end Go.Proofs.Ytbbegbaaefgikaa
