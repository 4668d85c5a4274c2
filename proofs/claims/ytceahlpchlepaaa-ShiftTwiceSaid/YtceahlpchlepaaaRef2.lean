/- What the document's own shifts (package salternref1) answer, for every input. -/
import Derived.Test.YtceahlpchlepaaaRef1
import Derived.Test.YtceahlpchlepaaaPure2
namespace Go.Proofs.Ytceahlpchlepaaa
open Go.ChangeShapes Go.WideShapes Go.ChangeAt Go.RowKit

theorem rknown_yes (op : Int) (w : World) (h : op = 26 ∨ op = 27 ∨ op = 28 ∨ op = 29 ∨ op = 30) : Calls Try.prog 12 #[.int .i64 op] w fun e w' => e = .returned (.bool true) ∧ w = w' := by
  rcases h with rfl | rfl | rfl | rfl | rfl
  all_goals
    go_enter Try.func12, Try.ntmps12
    go_wp2
    go_ret
    exact ⟨rfl, rfl⟩
theorem rknown_no (op : Int) (w : World) (h1 : (op == 26) = false) (h2 : (op == 27) = false) (h3 : (op == 28) = false) (h4 : (op == 29) = false) (h5 : (op == 30) = false) : Calls Try.prog 12 #[.int .i64 op] w fun e w' => e = .returned (.bool false) ∧ w = w' := by
  go_enter Try.func12, Try.ntmps12
  go_wp2
  go_ret
  exact ⟨rfl, rfl⟩
theorem rlogic4 (v : Int) (w : World) (h0 : 0 ≤ v) (h1 : v < 4294967296) : Calls Try.prog 16 #[.int .u32 v, .int .i64 4] w fun e w' =>
   e = .returned (.tuple #[.int .u32 v, .agg #[.bool false, .bool (par v), .bool (zer v), .bool (bt v 31), .bool false, .bool false]]) ∧ Below w.heap.size w w' := by
  have h := rlogic_any v 4 w h0 h1
  rw [show cut v 4 = v from Int.emod_eq_of_lt h0 h1] at h
  exact h

attribute [local go_sem] isSome_setCell

theorem shlV_zero (v : Int) (h0 : 0 ≤ v) (h1 : v < 4294967296) : shlV v 0 = v := (zero_V v h0 h1).1
theorem shrV_zero (v : Int) (h0 : 0 ≤ v) (h1 : v < 4294967296) : shrV v 0 = v := (zero_V v h0 h1).2.1
theorem sarV_zero (v : Int) (h0 : 0 ≤ v) (h1 : v < 4294967296) : sarV v 0 = v := (zero_V v h0 h1).2.2.1
theorem rolV_zero (v : Int) (h0 : 0 ≤ v) (h1 : v < 4294967296) : rolV v 0 = v := (zero_V v h0 h1).2.2.2.1
theorem rorV_zero (v : Int) (h0 : 0 ≤ v) (h1 : v < 4294967296) : rorV v 0 = v := (zero_V v h0 h1).2.2.2.2

set_option maxRecDepth 100000 in
set_option maxHeartbeats 4000000 in
theorem rshift_shl (fc fp fz fs fo fd : Bool) (v n : Int) (k : Nat) (h0 : 0 ≤ v) (h1 : v < 4294967296) (hk1 : 1 ≤ k) (hk : k < 32) (hn : bits .and .u32 n 31 = (k : Int)) (w : World) :
    Calls Try.prog 10 #[.int .i64 28, .agg #[.bool fc, .bool fp, .bool fz, .bool fs, .bool fo, .bool fd], .int .u32 v, .int .u32 n] w fun e w' =>
   e = .returned (.tuple #[.int .u32 (shlV v k), .agg #[.bool (shlC v k), .bool (par (shlV v k)), .bool (zer (shlV v k)), .bool (bt (shlV v k) 31), .bool (!(bt (shlV v k) 31 == shlC v k)), .bool fd]]) ∧ Below w.heap.size w w' := by
  have hk0 : ((k : Int) == 0) = false := by rw [beq_eq_false_iff_ne]; omega
  go_enter Try.func10, Try.ntmps10
  go_wp2_with (go_at_call 12; refine (rknown_yes 28 _ (by decide)).mono ?_; rintro e w' ⟨rfl, rfl⟩)
  go_loop [10, 11, 12] (fun x c i => ∃ j : Nat, j ≤ k ∧ i = .int .u32 j ∧ x = .int .u32 (shlV v j) ∧ c = .bool (shlC v j)) (fun _ _ i => k - (intOf i).toNat)
  case atStart => exact ⟨0, by omega, rfl, by rw [shlV_zero v h0 h1], rfl⟩
  case round =>
    obtain ⟨j, hj, rfl, rfl, rfl⟩ := hrel
    have l0 := shl_lo v j
    have l1 := shl_hi v j
    by_cases hlt : j < k
    · have hS := Lib.hid (shl_step v j)
      have hC := Lib.hid (top_eq (shlV v j) l0 l1)
      go_wp2
      go_round
      case rel => exact ⟨j + 1, by omega, by go_num, by rw [hS.out], by rw [hC.out]; rfl⟩
      case measure => simp [intOf]; omega
    · obtain rfl : j = k := by omega
      have ht := top_eq (shlV v j) l0 l1
      go_wp2_with (go_at_call 16; refine (rlogic4 _ _ l0 l1).mono ?_; rintro e w1 ⟨rfl, hb⟩; obtain ⟨hc, hf⟩ := bcell hb; have hz : w.heap.size + 2 < w1.heap.size := (by have := hb.size; simp at this; omega); have hy : w.heap.size < w1.heap.size := (by omega); have hy1 : w.heap.size + 1 < w1.heap.size := (by omega))
      go_region
      all_goals
        go_wp2
        have hB : Below w.heap.size w w1 := ((((Below.refl _ _).alloc (Nat.le_refl _) _).alloc (by simp) _).alloc (by simp; omega) _).trans (hb.mono (by simp; omega))
        refine bodyPost_ret (v := .tuple #[.int .u32 (shlV v j), .agg #[.bool (shlC v j), .bool (par (shlV v j)), .bool (zer (shlV v j)), .bool (bt (shlV v j) 31), .bool (!(bt (shlV v j) 31 == shlC v j)), .bool fd]]) (by simp [results, Try.results10, go_sem, hc]) rfl ⟨rfl, ?_⟩
        repeat' (first | (with_reducible exact hB) | (with_reducible refine Below.drew ?_) | (with_reducible refine Below.setCell ?_ ?_ _) | (with_reducible refine Below.alloc ?_ ?_ _) | (simp <;> omega))

set_option maxRecDepth 100000 in
set_option maxHeartbeats 4000000 in
theorem rshift_shr (fc fp fz fs fo fd : Bool) (v n : Int) (k : Nat) (h0 : 0 ≤ v) (h1 : v < 4294967296) (hk1 : 1 ≤ k) (hk : k < 32) (hn : bits .and .u32 n 31 = (k : Int)) (w : World) :
    Calls Try.prog 10 #[.int .i64 29, .agg #[.bool fc, .bool fp, .bool fz, .bool fs, .bool fo, .bool fd], .int .u32 v, .int .u32 n] w fun e w' =>
   e = .returned (.tuple #[.int .u32 (shrV v k), .agg #[.bool (shrC v k), .bool (par (shrV v k)), .bool (zer (shrV v k)), .bool (bt (shrV v k) 31), .bool (bt v 31), .bool fd]]) ∧ Below w.heap.size w w' := by
  have hk0 : ((k : Int) == 0) = false := by rw [beq_eq_false_iff_ne]; omega
  go_enter Try.func10, Try.ntmps10
  go_wp2_with (go_at_call 12; refine (rknown_yes 29 _ (by decide)).mono ?_; rintro e w' ⟨rfl, rfl⟩)
  go_loop [10, 11, 12] (fun x c i => ∃ j : Nat, j ≤ k ∧ i = .int .u32 j ∧ x = .int .u32 (shrV v j) ∧ c = .bool (shrC v j)) (fun _ _ i => k - (intOf i).toNat)
  case atStart => exact ⟨0, by omega, rfl, by rw [shrV_zero v h0 h1], rfl⟩
  case round =>
    obtain ⟨j, hj, rfl, rfl, rfl⟩ := hrel
    have l0 := shr_lo v j h0
    have l1 := shr_hi v j h0 h1
    by_cases hlt : j < k
    · have hS := Lib.hid (shr_step v j)
      have hC := Lib.hid (low_eq (shrV v j) l0 l1)
      go_wp2
      go_round
      case rel => exact ⟨j + 1, by omega, by go_num, by rw [hS.out], by rw [hC.out]; rfl⟩
      case measure => simp [intOf]; omega
    · obtain rfl : j = k := by omega
      have ht := top_eq v h0 h1
      go_wp2_with (go_at_call 16; refine (rlogic4 _ _ l0 l1).mono ?_; rintro e w1 ⟨rfl, hb⟩; obtain ⟨hc, hf⟩ := bcell hb; have hz : w.heap.size + 2 < w1.heap.size := (by have := hb.size; simp at this; omega); have hy : w.heap.size < w1.heap.size := (by omega); have hy1 : w.heap.size + 1 < w1.heap.size := (by omega))
      go_region
      all_goals
        go_wp2
        have hB : Below w.heap.size w w1 := ((((Below.refl _ _).alloc (Nat.le_refl _) _).alloc (by simp) _).alloc (by simp; omega) _).trans (hb.mono (by simp; omega))
        refine bodyPost_ret (v := .tuple #[.int .u32 (shrV v j), .agg #[.bool (shrC v j), .bool (par (shrV v j)), .bool (zer (shrV v j)), .bool (bt (shrV v j) 31), .bool (bt v 31), .bool fd]]) (by simp [results, Try.results10, go_sem, hc]) rfl ⟨rfl, ?_⟩
        repeat' (first | (with_reducible exact hB) | (with_reducible refine Below.drew ?_) | (with_reducible refine Below.setCell ?_ ?_ _) | (with_reducible refine Below.alloc ?_ ?_ _) | (simp <;> omega))

set_option maxRecDepth 100000 in
set_option maxHeartbeats 4000000 in
theorem rshift_sar (fc fp fz fs fo fd : Bool) (v n : Int) (k : Nat) (h0 : 0 ≤ v) (h1 : v < 4294967296) (hk1 : 1 ≤ k) (hk : k < 32) (hn : bits .and .u32 n 31 = (k : Int)) (w : World) :
    Calls Try.prog 10 #[.int .i64 30, .agg #[.bool fc, .bool fp, .bool fz, .bool fs, .bool fo, .bool fd], .int .u32 v, .int .u32 n] w fun e w' =>
   e = .returned (.tuple #[.int .u32 (sarV v k), .agg #[.bool (sarC v k), .bool (par (sarV v k)), .bool (zer (sarV v k)), .bool (bt (sarV v k) 31), .bool false, .bool fd]]) ∧ Below w.heap.size w w' := by
  have hk0 : ((k : Int) == 0) = false := by rw [beq_eq_false_iff_ne]; omega
  go_enter Try.func10, Try.ntmps10
  go_wp2_with (go_at_call 12; refine (rknown_yes 30 _ (by decide)).mono ?_; rintro e w' ⟨rfl, rfl⟩)
  go_loop [10, 11, 12] (fun x c i => ∃ j : Nat, j ≤ k ∧ i = .int .u32 j ∧ x = .int .u32 (sarV v j) ∧ c = .bool (sarC v j)) (fun _ _ i => k - (intOf i).toNat)
  case atStart => exact ⟨0, by omega, rfl, by rw [sarV_zero v h0 h1], rfl⟩
  case round =>
    obtain ⟨j, hj, rfl, rfl, rfl⟩ := hrel
    have l0 := sar_lo v j
    have l1 := sar_hi v j
    by_cases hlt : j < k
    · have hS := Lib.hid ((sar_or (sarV v j) l0 l1).trans (sar_step v j (by omega)))
      have hC := Lib.hid (low_eq (sarV v j) l0 l1)
      go_wp2
      go_round
      case rel => exact ⟨j + 1, by omega, by go_num, by rw [hS.out], by rw [hC.out]; rfl⟩
      case measure => simp [intOf]; omega
    · obtain rfl : j = k := by omega
      skip
      go_wp2_with (go_at_call 16; refine (rlogic4 _ _ l0 l1).mono ?_; rintro e w1 ⟨rfl, hb⟩; obtain ⟨hc, hf⟩ := bcell hb; have hz : w.heap.size + 2 < w1.heap.size := (by have := hb.size; simp at this; omega); have hy : w.heap.size < w1.heap.size := (by omega); have hy1 : w.heap.size + 1 < w1.heap.size := (by omega))
      go_region
      all_goals
        go_wp2
        have hB : Below w.heap.size w w1 := ((((Below.refl _ _).alloc (Nat.le_refl _) _).alloc (by simp) _).alloc (by simp; omega) _).trans (hb.mono (by simp; omega))
        refine bodyPost_ret (v := .tuple #[.int .u32 (sarV v j), .agg #[.bool (sarC v j), .bool (par (sarV v j)), .bool (zer (sarV v j)), .bool (bt (sarV v j) 31), .bool false, .bool fd]]) (by simp [results, Try.results10, go_sem, hc]) rfl ⟨rfl, ?_⟩
        repeat' (first | (with_reducible exact hB) | (with_reducible refine Below.drew ?_) | (with_reducible refine Below.setCell ?_ ?_ _) | (with_reducible refine Below.alloc ?_ ?_ _) | (simp <;> omega))

set_option maxRecDepth 100000 in
set_option maxHeartbeats 4000000 in
theorem rshift_rol (fc fp fz fs fo fd : Bool) (v n : Int) (k : Nat) (h0 : 0 ≤ v) (h1 : v < 4294967296) (hk1 : 1 ≤ k) (hk : k < 32) (hn : bits .and .u32 n 31 = (k : Int)) (w : World) :
    Calls Try.prog 10 #[.int .i64 26, .agg #[.bool fc, .bool fp, .bool fz, .bool fs, .bool fo, .bool fd], .int .u32 v, .int .u32 n] w fun e w' =>
   e = .returned (.tuple #[.int .u32 (rolV v k), .agg #[.bool (rolC v k), .bool fp, .bool fz, .bool fs, .bool (!(bt (rolV v k) 31 == rolC v k)), .bool fd]]) ∧ Below w.heap.size w w' := by
  have hk0 : ((k : Int) == 0) = false := by rw [beq_eq_false_iff_ne]; omega
  go_enter Try.func10, Try.ntmps10
  go_wp2_with (go_at_call 12; refine (rknown_yes 26 _ (by decide)).mono ?_; rintro e w' ⟨rfl, rfl⟩)
  go_loop [10, 11, 12] (fun x c i => ∃ j : Nat, j ≤ k ∧ i = .int .u32 j ∧ x = .int .u32 (rolV v j) ∧ c = .bool (rolC v j)) (fun _ _ i => k - (intOf i).toNat)
  case atStart => exact ⟨0, by omega, rfl, by rw [rolV_zero v h0 h1], rfl⟩
  case round =>
    obtain ⟨j, hj, rfl, rfl, rfl⟩ := hrel
    have l0 := rol_lo v j h0
    have l1 := rol_hi v j (by omega) h0 h1
    by_cases hlt : j < k
    · have hS := Lib.hid ((rol_or (rolV v j) l0 l1).trans (rol_step v j (by omega) h0 h1))
      have hC := Lib.hid (low_eq (rolV v (j + 1)) (rol_lo v _ h0) (rol_hi v _ (by omega) h0 h1))
      go_wp2
      go_round
      case rel => exact ⟨j + 1, by omega, by go_num, by rw [hS.out], by rw [hS.out, hC.out]; rfl⟩
      case measure => simp [intOf]; omega
    · obtain rfl : j = k := by omega
      have ht := top_eq (rolV v j) l0 l1
      go_wp2
      go_region
      all_goals
        go_wp2
        have hB := Below.refl w.heap.size w
        refine bodyPost_ret (v := .tuple #[.int .u32 (rolV v j), .agg #[.bool (rolC v j), .bool fp, .bool fz, .bool fs, .bool (!(bt (rolV v j) 31 == rolC v j)), .bool fd]]) (by simp [results, Try.results10, go_sem]) rfl ⟨rfl, ?_⟩
        repeat' (first | (with_reducible exact hB) | (with_reducible refine Below.drew ?_) | (with_reducible refine Below.setCell ?_ ?_ _) | (with_reducible refine Below.alloc ?_ ?_ _) | (simp <;> omega))

set_option maxRecDepth 100000 in
set_option maxHeartbeats 4000000 in
theorem rshift_ror (fc fp fz fs fo fd : Bool) (v n : Int) (k : Nat) (h0 : 0 ≤ v) (h1 : v < 4294967296) (hk1 : 1 ≤ k) (hk : k < 32) (hn : bits .and .u32 n 31 = (k : Int)) (w : World) :
    Calls Try.prog 10 #[.int .i64 27, .agg #[.bool fc, .bool fp, .bool fz, .bool fs, .bool fo, .bool fd], .int .u32 v, .int .u32 n] w fun e w' =>
   e = .returned (.tuple #[.int .u32 (rorV v k), .agg #[.bool (rorC v k), .bool fp, .bool fz, .bool fs, .bool (bt (rorV v k) 31 != bt (rorV v k) 30), .bool fd]]) ∧ Below w.heap.size w w' := by
  have hk0 : ((k : Int) == 0) = false := by rw [beq_eq_false_iff_ne]; omega
  go_enter Try.func10, Try.ntmps10
  go_wp2_with (go_at_call 12; refine (rknown_yes 27 _ (by decide)).mono ?_; rintro e w' ⟨rfl, rfl⟩)
  go_loop [10, 11, 12] (fun x c i => ∃ j : Nat, j ≤ k ∧ i = .int .u32 j ∧ x = .int .u32 (rorV v j) ∧ c = .bool (rorC v j)) (fun _ _ i => k - (intOf i).toNat)
  case atStart => exact ⟨0, by omega, rfl, by rw [rorV_zero v h0 h1], rfl⟩
  case round =>
    obtain ⟨j, hj, rfl, rfl, rfl⟩ := hrel
    have l0 := ror_lo v j h0
    have l1 := ror_hi v j (by omega) h0 h1
    by_cases hlt : j < k
    · have hS := Lib.hid ((ror_or (rorV v j) l0 l1).trans (ror_step v j (by omega)))
      have hC := Lib.hid (top_eq (rorV v (j + 1)) (ror_lo v _ h0) (ror_hi v _ (by omega) h0 h1))
      go_wp2
      go_round
      case rel => exact ⟨j + 1, by omega, by go_num, by rw [hS.out], by rw [hS.out, hC.out]; rfl⟩
      case measure => simp [intOf]; omega
    · obtain rfl : j = k := by omega
      have ht := two_tops (rorV v j) l0 l1
      go_wp2
      go_region
      all_goals
        go_wp2
        have hB := Below.refl w.heap.size w
        refine bodyPost_ret (v := .tuple #[.int .u32 (rorV v j), .agg #[.bool (rorC v j), .bool fp, .bool fz, .bool fs, .bool (bt (rorV v j) 31 != bt (rorV v j) 30), .bool fd]]) (by simp [results, Try.results10, go_sem]) rfl ⟨rfl, ?_⟩
        repeat' (first | (with_reducible exact hB) | (with_reducible refine Below.drew ?_) | (with_reducible refine Below.setCell ?_ ?_ _) | (with_reducible refine Below.alloc ?_ ?_ _) | (simp <;> omega))

set_option maxRecDepth 100000 in
set_option maxHeartbeats 4000000 in
theorem rshift_nought (op : Int) (fc fp fz fs fo fd : Bool) (v n : Int) (hn : bits .and .u32 n 31 = 0) (w : World) :
    Calls Try.prog 10 #[.int .i64 op, .agg #[.bool fc, .bool fp, .bool fz, .bool fs, .bool fo, .bool fd], .int .u32 v, .int .u32 n] w fun e w' =>
   e = .returned (.tuple #[.int .u32 v, .agg #[.bool fc, .bool fp, .bool fz, .bool fs, .bool fo, .bool fd]]) ∧ Below w.heap.size w w' := by
  go_enter Try.func10, Try.ntmps10
  go_wp2
  go_region
  all_goals
    go_wp2
    refine bodyPost_ret (v := .tuple #[.int .u32 v, .agg #[.bool fc, .bool fp, .bool fz, .bool fs, .bool fo, .bool fd]]) (by simp [results, Try.results10, go_sem]) rfl ⟨rfl, ?_⟩
    have hB := Below.refl w.heap.size w
    repeat' (first | (with_reducible exact hB) | (with_reducible refine Below.drew ?_) | (with_reducible refine Below.setCell ?_ ?_ _) | (with_reducible refine Below.alloc ?_ ?_ _) | (simp <;> omega))

set_option maxRecDepth 100000 in
set_option maxHeartbeats 4000000 in
theorem rshift_other (op : Int) (fc fp fz fs fo fd : Bool) (v n : Int) (k : Nat) (hn : bits .and .u32 n 31 = (k : Int)) (hk0 : ((k : Int) == 0) = false) (h1 : (op == 26) = false) (h2 : (op == 27) = false) (h3 : (op == 28) = false) (h4 : (op == 29) = false) (h5 : (op == 30) = false) (w : World) :
    Calls Try.prog 10 #[.int .i64 op, .agg #[.bool fc, .bool fp, .bool fz, .bool fs, .bool fo, .bool fd], .int .u32 v, .int .u32 n] w fun e w' =>
   e = .returned (.tuple #[.int .u32 v, .agg #[.bool fc, .bool fp, .bool fz, .bool fs, .bool fo, .bool fd]]) ∧ Below w.heap.size w w' := by
  go_enter Try.func10, Try.ntmps10
  go_wp2_with (go_at_call 12; refine (rknown_no op _ h1 h2 h3 h4 h5).mono ?_; rintro e w' ⟨rfl, rfl⟩)
  go_region
  all_goals
    go_wp2
    refine bodyPost_ret (v := .tuple #[.int .u32 v, .agg #[.bool fc, .bool fp, .bool fz, .bool fs, .bool fo, .bool fd]]) (by simp [results, Try.results10, go_sem]) rfl ⟨rfl, ?_⟩
    have hB := Below.refl w.heap.size w
    repeat' (first | (with_reducible exact hB) | (with_reducible refine Below.drew ?_) | (with_reducible refine Below.setCell ?_ ?_ _) | (with_reducible refine Below.alloc ?_ ?_ _) | (simp <;> omega))

/-- All ways together. -/
theorem rshift_any (op : Int) (fc fp fz fs fo fd : Bool) (v n : Int) (h0 : 0 ≤ v) (h1 : v < 4294967296) (k0 : 0 ≤ n) (k1 : n < 4294967296) (w : World) :
    Calls Try.prog 10 #[.int .i64 op, .agg #[.bool fc, .bool fp, .bool fz, .bool fs, .bool fo, .bool fd], .int .u32 v, .int .u32 n] w fun e w' =>
   e = .returned (.tuple #[.int .u32 (shV op v (n % 32).toNat), .agg #[.bool (sfC op v (n % 32).toNat fc), .bool (sfP op v (n % 32).toNat fp), .bool (sfZ op v (n % 32).toNat fz), .bool (sfS op v (n % 32).toNat fs), .bool (sfO op v (n % 32).toNat fo), .bool fd]]) ∧ Below w.heap.size w w' := by
  have hn : bits .and .u32 n 31 = (((n % 32).toNat : Nat) : Int) := by rw [bits31 n k0 k1]; omega
  have hk : (n % 32).toNat < 32 := by omega
  generalize (n % 32).toNat = k at *
  rcases shift_ways op k with h | ⟨h, hk1, ho⟩
  · simp only [shV, sfC, sfP, sfZ, sfS, sfO, h, if_true]
    rcases kept_ways op k h with rfl | ⟨g1, g2, g3, g4, g5⟩
    · exact rshift_nought op fc fp fz fs fo fd v n hn w
    · by_cases hz : k = 0
      · subst hz; exact rshift_nought op fc fp fz fs fo fd v n hn w
      · exact rshift_other op fc fp fz fs fo fd v n k hn (by rw [beq_eq_false_iff_ne]; omega) g1 g2 g3 g4 g5 w
  · rcases ho with rfl | rfl | rfl | rfl | rfl <;> simp [shV, sfC, sfP, sfZ, sfS, sfO, h]
    · exact rshift_rol fc fp fz fs fo fd v n k h0 h1 hk1 hk hn w
    · exact rshift_ror fc fp fz fs fo fd v n k h0 h1 hk1 hk hn w
    · exact rshift_shl fc fp fz fs fo fd v n k h0 h1 hk1 hk hn w
    · exact rshift_shr fc fp fz fs fo fd v n k h0 h1 hk1 hk hn w
    · exact rshift_sar fc fp fz fs fo fd v n k h0 h1 hk1 hk hn w
end Go.Proofs.Ytceahlpchlepaaa
