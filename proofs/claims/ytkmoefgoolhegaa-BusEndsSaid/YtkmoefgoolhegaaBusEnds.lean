/- The last bytes of a segment are reached, and none behind them. -/
import Derived.Test.YtkmoefgoolhegaaKnown8
import Derived.Test.YtkmoefgoolhegaaShut
import Derived.Laws.BitsAllLaws
namespace Go.Proofs.Ytkmoefgoolhegaa
open Go.ChangeShapes Go.WideShapes Go.ChangeAt Go.RowKit

theorem and_low64 (v : Int) (m : Nat) (v0 : 0 ≤ v) (v1 : v < 18446744073709551616) (hm : m ≤ 64) : bits .and .u64 v ((2 ^ m - 1 : Nat) : Int) = v % ((2 ^ m : Nat) : Int) := by
  obtain ⟨n, rfl⟩ := Int.eq_ofNat_of_zero_le v0
  have hp : 2 ^ m ≤ 2 ^ 64 := Nat.pow_le_pow_right (by decide) hm
  rw [u64_and_nat n (2 ^ m - 1) (by omega) (by omega), Nat.and_two_pow_sub_one_eq_mod]
  rfl
def eC (s : Int) : Sg := ⟨5, s, false, false, true⟩
def eD (s : Int) : Sg := ⟨131072, s, true, true, false⟩
theorem ends_fit (s off : Int) (k : Int) (n : Nat) (hn : widN k = n) (h1 : s < 65552) : fitB 131072 s off (widN k) = decide (off + n ≤ s) := by
  unfold fitB segR
  rw [clampN_wid, hn, decide_eq_true (by omega), Bool.true_and]
theorem ends_st (s off k : Int) (n : Nat) (hn : widN k = n) (h1 : s < 65552) : stE (eD s) off k = if off + n ≤ s then 0 else 24 := by
  unfold stE atE
  show (if mayB true true false 1 = true then if fitB 131072 s off (widN k) = true then (0 : Int) else 24 else 25) = _
  rw [ends_fit s off k n hn h1, if_pos (by decide)]
  by_cases h : off + n ≤ s
  · rw [if_pos h, if_pos (decide_eq_true h)]
  · rw [if_neg h, if_neg (by rw [decide_eq_false h]; exact Bool.false_ne_true)]
theorem ends_ld (s off k : Int) (n : Nat) (hn : widN k = n) (h1 : s < 65552) : ldE (eD s) off k = if off + n ≤ s then 0 else 24 := by
  unfold ldE atE
  show (if mayB true true false 0 = true then if fitB 131072 s off (widN k) = true then (0 : Int) else 24 else 25) = _
  rw [ends_fit s off k n hn h1, if_pos (by decide)]
  by_cases h : off + n ≤ s
  · rw [if_pos h, if_pos (decide_eq_true h)]
  · rw [if_neg h, if_neg (by rw [decide_eq_false h]; exact Bool.false_ne_true)]
theorem ends_v (g : Int → Int) (s off k v : Int) (n : Nat) (hn : widN k = n) (h1 : s < 65552) (v0 : 0 ≤ v) (h : off + n ≤ s) : ldV (stG g (eD s) off k v) (eD s) off k = v % 256 ^ n := by
  unfold ldV stG
  rw [ends_ld s off k n hn h1, ends_st s off k n hn h1, if_pos h, if_pos rfl, if_pos rfl, hn]
  exact leV_byteOf _ _ v v0 n fun i hi => writeG_hit _ _ _ n i (by have := widN_hi k; omega) hi
theorem ends_ft (s off : Int) (h1 : s < 65552) (h0 : s - off ≤ 15) (h2 : 0 ≤ s - off) : ftN (eC s) off 15 = (s - off).toNat := by
  unfold ftN clampF segR eC
  simp only
  rw [if_pos (by simp; omega), if_neg (by decide), if_neg (by decide)]
  omega

set_option maxRecDepth 100000 in
set_option maxHeartbeats 8000000 in
theorem busends_0 (z n v : Int) (w : World) (z0 : 0 ≤ z) (z1 : z < 65536) (n0 : 0 ≤ n) (n1 : n < 256) (v0 : 0 ≤ v) (v1 : v < 18446744073709551616) (hn : n % 4 = 0) :
    Calls Try.prog 4 #[.int .u16 z, .int .u8 n, .int .u64 v] w fun e w' => e = .returned (.bool true) ∧ Below w.heap.size w w' := by
  obtain ⟨s, hs⟩ : ∃ s, z + 16 = s := ⟨_, rfl⟩
  have s0 : 16 ≤ s := by omega
  have s1 : s < 65552 := by omega
  have E1 := Lib.hid (show stE (eD s) (s - 1) 1 = 0 by rw [ends_st s _ _ 1 rfl s1, if_pos (by omega)])
  have E2 := Lib.hid (show ldE (eD s) (s - 1) 1 = 0 by rw [ends_ld s _ _ 1 rfl s1, if_pos (by omega)])
  have E3 := Lib.hid (show ldE (eD s) s 1 = 24 by rw [ends_ld s _ _ 1 rfl s1, if_neg (by omega)])
  have E4 := Lib.hid (show stE (eD s) s 1 = 24 by rw [ends_st s _ _ 1 rfl s1, if_neg (by omega)])
  have E5 := Lib.hid (show stE (eD s) 4294967295 1 = 24 by rw [ends_st s _ _ 1 rfl s1, if_neg (by omega)])
  have E6 := Lib.hid (ends_v (fun _ => 0) s (s - 1) 1 v 1 rfl s1 v0 (by omega))
  have F1 := Lib.hid (show ftN (eC s) (s - 3) 15 = 3 by rw [ends_ft s _ s1 (by omega) (by omega)]; omega)
  have F2 := Lib.hid (show ftN (eC s) s 15 = 0 by rw [ends_ft s _ s1 (by omega) (by omega)]; omega)
  have hM : bits .and .u64 v 255 = v % 256 ^ 1 := and_low64 v 8 v0 v1 (by decide)
  have hc : (eC s).ok := ⟨by show (0 : Int) ≤ 5 ∧ (5 : Int) < 4294967296; omega, by show 0 ≤ s ∧ s < 4294967296; omega⟩
  have hd : (eD s).ok := ⟨by show (0 : Int) ≤ 131072 ∧ (131072 : Int) < 4294967296; omega, by show 0 ≤ s ∧ s < 4294967296; omega⟩
  obtain ⟨V, hV⟩ : ∃ V, v % 256 ^ 1 = V := ⟨_, rfl⟩
  rw [hV] at hM
  have HV := Lib.hid hV
  clear hV
  go_enter Try.func4, Try.ntmps4
  go_wp2_with fail
  refine (known8_any _).mono ?_
  rintro e w1 ⟨rfl, B1⟩
  go_wp2_with fail
  refine (min_new (w0 := w) _ (below_last B1 _)).mono ?_
  rintro e w2 ⟨p, F, rfl, M2, _, _⟩
  go_wp2_with fail
  refine (bin_new M2 (eC s) (eD s) hc hd).mono ?_
  rintro e w3 ⟨b, F3, rfl, X3⟩
  go_wp2_with fail
  refine (bin_store X3 (s - 1) 1 v (by omega) (by omega) v0 v1).mono ?_
  rintro e w4 ⟨F4, rfl, X4⟩
  rw [E1.out]
  clear B1 M2 X3
  go_wp2_with fail
  refine (bin_load X4 (s - 1) 1 (by omega) (by omega)).mono ?_
  rintro e w5 ⟨rfl, X5⟩
  rw [E2.out, E6.out, HV.out]
  clear X4
  go_wp2_with fail
  refine (bin_load X5 s 1 (by omega) (by omega)).mono ?_
  rintro e w6 ⟨rfl, X6⟩
  rw [E3.out]
  clear X5
  go_wp2_with fail
  refine (bin_store X6 s 1 v (by omega) (by omega) v0 v1).mono ?_
  rintro e w7 ⟨F7, rfl, X7⟩
  rw [E4.out]
  clear X6
  go_wp2_with fail
  refine (bin_store X7 4294967295 1 v (by decide) (by decide) v0 v1).mono ?_
  rintro e w8 ⟨F8, rfl, X8⟩
  rw [E5.out]
  clear X7
  go_wp2_with fail
  refine (bin_fetch X8 (s - 3) 15 (by omega) (by omega)).mono ?_
  rintro e w9 ⟨y, cap, rfl, _, X9⟩
  rw [F1.out]
  clear X8
  go_wp2_with fail
  refine (bin_fetch X9 s 15 (by omega) (by omega)).mono ?_
  rintro e w10 ⟨y, cap, rfl, _, X10⟩
  rw [F2.out]
  have B10 := X10.low
  clear X9 X10
  go_wp2_with fail
  go_ret
  exact ⟨rfl, B10⟩

set_option maxRecDepth 100000 in
set_option maxHeartbeats 8000000 in
theorem busends_1 (z n v : Int) (w : World) (z0 : 0 ≤ z) (z1 : z < 65536) (n0 : 0 ≤ n) (n1 : n < 256) (v0 : 0 ≤ v) (v1 : v < 18446744073709551616) (hn : n % 4 = 1) :
    Calls Try.prog 4 #[.int .u16 z, .int .u8 n, .int .u64 v] w fun e w' => e = .returned (.bool true) ∧ Below w.heap.size w w' := by
  obtain ⟨s, hs⟩ : ∃ s, z + 16 = s := ⟨_, rfl⟩
  have s0 : 16 ≤ s := by omega
  have s1 : s < 65552 := by omega
  have E1 := Lib.hid (show stE (eD s) (s - 2) 2 = 0 by rw [ends_st s _ _ 2 rfl s1, if_pos (by omega)])
  have E2 := Lib.hid (show ldE (eD s) (s - 2) 2 = 0 by rw [ends_ld s _ _ 2 rfl s1, if_pos (by omega)])
  have E3 := Lib.hid (show ldE (eD s) (s - 2 + 1) 2 = 24 by rw [ends_ld s _ _ 2 rfl s1, if_neg (by omega)])
  have E4 := Lib.hid (show stE (eD s) (s - 2 + 1) 2 = 24 by rw [ends_st s _ _ 2 rfl s1, if_neg (by omega)])
  have E5 := Lib.hid (show stE (eD s) 4294967295 2 = 24 by rw [ends_st s _ _ 2 rfl s1, if_neg (by omega)])
  have E6 := Lib.hid (ends_v (fun _ => 0) s (s - 2) 2 v 2 rfl s1 v0 (by omega))
  have F1 := Lib.hid (show ftN (eC s) (s - 3) 15 = 3 by rw [ends_ft s _ s1 (by omega) (by omega)]; omega)
  have F2 := Lib.hid (show ftN (eC s) s 15 = 0 by rw [ends_ft s _ s1 (by omega) (by omega)]; omega)
  have hM : bits .and .u64 v 65535 = v % 256 ^ 2 := and_low64 v 16 v0 v1 (by decide)
  have hc : (eC s).ok := ⟨by show (0 : Int) ≤ 5 ∧ (5 : Int) < 4294967296; omega, by show 0 ≤ s ∧ s < 4294967296; omega⟩
  have hd : (eD s).ok := ⟨by show (0 : Int) ≤ 131072 ∧ (131072 : Int) < 4294967296; omega, by show 0 ≤ s ∧ s < 4294967296; omega⟩
  obtain ⟨V, hV⟩ : ∃ V, v % 256 ^ 2 = V := ⟨_, rfl⟩
  rw [hV] at hM
  have HV := Lib.hid hV
  clear hV
  go_enter Try.func4, Try.ntmps4
  go_wp2_with fail
  refine (known8_any _).mono ?_
  rintro e w1 ⟨rfl, B1⟩
  go_wp2_with fail
  refine (min_new (w0 := w) _ (below_last B1 _)).mono ?_
  rintro e w2 ⟨p, F, rfl, M2, _, _⟩
  go_wp2_with fail
  refine (bin_new M2 (eC s) (eD s) hc hd).mono ?_
  rintro e w3 ⟨b, F3, rfl, X3⟩
  go_wp2_with fail
  refine (bin_store X3 (s - 2) 2 v (by omega) (by omega) v0 v1).mono ?_
  rintro e w4 ⟨F4, rfl, X4⟩
  rw [E1.out]
  clear B1 M2 X3
  go_wp2_with fail
  refine (bin_load X4 (s - 2) 2 (by omega) (by omega)).mono ?_
  rintro e w5 ⟨rfl, X5⟩
  rw [E2.out, E6.out, HV.out]
  clear X4
  go_wp2_with fail
  refine (bin_load X5 (s - 2 + 1) 2 (by omega) (by omega)).mono ?_
  rintro e w6 ⟨rfl, X6⟩
  rw [E3.out]
  clear X5
  go_wp2_with fail
  refine (bin_store X6 (s - 2 + 1) 2 v (by omega) (by omega) v0 v1).mono ?_
  rintro e w7 ⟨F7, rfl, X7⟩
  rw [E4.out]
  clear X6
  go_wp2_with fail
  refine (bin_store X7 4294967295 2 v (by decide) (by decide) v0 v1).mono ?_
  rintro e w8 ⟨F8, rfl, X8⟩
  rw [E5.out]
  clear X7
  go_wp2_with fail
  refine (bin_fetch X8 (s - 3) 15 (by omega) (by omega)).mono ?_
  rintro e w9 ⟨y, cap, rfl, _, X9⟩
  rw [F1.out]
  clear X8
  go_wp2_with fail
  refine (bin_fetch X9 s 15 (by omega) (by omega)).mono ?_
  rintro e w10 ⟨y, cap, rfl, _, X10⟩
  rw [F2.out]
  have B10 := X10.low
  clear X9 X10
  go_wp2_with fail
  go_ret
  exact ⟨rfl, B10⟩

set_option maxRecDepth 100000 in
set_option maxHeartbeats 8000000 in
theorem busends_2 (z n v : Int) (w : World) (z0 : 0 ≤ z) (z1 : z < 65536) (n0 : 0 ≤ n) (n1 : n < 256) (v0 : 0 ≤ v) (v1 : v < 18446744073709551616) (hn : n % 4 = 2) :
    Calls Try.prog 4 #[.int .u16 z, .int .u8 n, .int .u64 v] w fun e w' => e = .returned (.bool true) ∧ Below w.heap.size w w' := by
  obtain ⟨s, hs⟩ : ∃ s, z + 16 = s := ⟨_, rfl⟩
  have s0 : 16 ≤ s := by omega
  have s1 : s < 65552 := by omega
  have E1 := Lib.hid (show stE (eD s) (s - 4) 4 = 0 by rw [ends_st s _ _ 4 rfl s1, if_pos (by omega)])
  have E2 := Lib.hid (show ldE (eD s) (s - 4) 4 = 0 by rw [ends_ld s _ _ 4 rfl s1, if_pos (by omega)])
  have E3 := Lib.hid (show ldE (eD s) (s - 4 + 1) 4 = 24 by rw [ends_ld s _ _ 4 rfl s1, if_neg (by omega)])
  have E4 := Lib.hid (show stE (eD s) (s - 4 + 1) 4 = 24 by rw [ends_st s _ _ 4 rfl s1, if_neg (by omega)])
  have E5 := Lib.hid (show stE (eD s) 4294967295 4 = 24 by rw [ends_st s _ _ 4 rfl s1, if_neg (by omega)])
  have E6 := Lib.hid (ends_v (fun _ => 0) s (s - 4) 4 v 4 rfl s1 v0 (by omega))
  have F1 := Lib.hid (show ftN (eC s) (s - 3) 15 = 3 by rw [ends_ft s _ s1 (by omega) (by omega)]; omega)
  have F2 := Lib.hid (show ftN (eC s) s 15 = 0 by rw [ends_ft s _ s1 (by omega) (by omega)]; omega)
  have hM : bits .and .u64 v 4294967295 = v % 256 ^ 4 := and_low64 v 32 v0 v1 (by decide)
  have hc : (eC s).ok := ⟨by show (0 : Int) ≤ 5 ∧ (5 : Int) < 4294967296; omega, by show 0 ≤ s ∧ s < 4294967296; omega⟩
  have hd : (eD s).ok := ⟨by show (0 : Int) ≤ 131072 ∧ (131072 : Int) < 4294967296; omega, by show 0 ≤ s ∧ s < 4294967296; omega⟩
  obtain ⟨V, hV⟩ : ∃ V, v % 256 ^ 4 = V := ⟨_, rfl⟩
  rw [hV] at hM
  have HV := Lib.hid hV
  clear hV
  go_enter Try.func4, Try.ntmps4
  go_wp2_with fail
  refine (known8_any _).mono ?_
  rintro e w1 ⟨rfl, B1⟩
  go_wp2_with fail
  refine (min_new (w0 := w) _ (below_last B1 _)).mono ?_
  rintro e w2 ⟨p, F, rfl, M2, _, _⟩
  go_wp2_with fail
  refine (bin_new M2 (eC s) (eD s) hc hd).mono ?_
  rintro e w3 ⟨b, F3, rfl, X3⟩
  go_wp2_with fail
  refine (bin_store X3 (s - 4) 4 v (by omega) (by omega) v0 v1).mono ?_
  rintro e w4 ⟨F4, rfl, X4⟩
  rw [E1.out]
  clear B1 M2 X3
  go_wp2_with fail
  refine (bin_load X4 (s - 4) 4 (by omega) (by omega)).mono ?_
  rintro e w5 ⟨rfl, X5⟩
  rw [E2.out, E6.out, HV.out]
  clear X4
  go_wp2_with fail
  refine (bin_load X5 (s - 4 + 1) 4 (by omega) (by omega)).mono ?_
  rintro e w6 ⟨rfl, X6⟩
  rw [E3.out]
  clear X5
  go_wp2_with fail
  refine (bin_store X6 (s - 4 + 1) 4 v (by omega) (by omega) v0 v1).mono ?_
  rintro e w7 ⟨F7, rfl, X7⟩
  rw [E4.out]
  clear X6
  go_wp2_with fail
  refine (bin_store X7 4294967295 4 v (by decide) (by decide) v0 v1).mono ?_
  rintro e w8 ⟨F8, rfl, X8⟩
  rw [E5.out]
  clear X7
  go_wp2_with fail
  refine (bin_fetch X8 (s - 3) 15 (by omega) (by omega)).mono ?_
  rintro e w9 ⟨y, cap, rfl, _, X9⟩
  rw [F1.out]
  clear X8
  go_wp2_with fail
  refine (bin_fetch X9 s 15 (by omega) (by omega)).mono ?_
  rintro e w10 ⟨y, cap, rfl, _, X10⟩
  rw [F2.out]
  have B10 := X10.low
  clear X9 X10
  go_wp2_with fail
  go_ret
  exact ⟨rfl, B10⟩

set_option maxRecDepth 100000 in
set_option maxHeartbeats 8000000 in
theorem busends_3 (z n v : Int) (w : World) (z0 : 0 ≤ z) (z1 : z < 65536) (n0 : 0 ≤ n) (n1 : n < 256) (v0 : 0 ≤ v) (v1 : v < 18446744073709551616) (hn : n % 4 = 3) :
    Calls Try.prog 4 #[.int .u16 z, .int .u8 n, .int .u64 v] w fun e w' => e = .returned (.bool true) ∧ Below w.heap.size w w' := by
  obtain ⟨s, hs⟩ : ∃ s, z + 16 = s := ⟨_, rfl⟩
  have s0 : 16 ≤ s := by omega
  have s1 : s < 65552 := by omega
  have E1 := Lib.hid (show stE (eD s) (s - 8) 8 = 0 by rw [ends_st s _ _ 8 rfl s1, if_pos (by omega)])
  have E2 := Lib.hid (show ldE (eD s) (s - 8) 8 = 0 by rw [ends_ld s _ _ 8 rfl s1, if_pos (by omega)])
  have E3 := Lib.hid (show ldE (eD s) (s - 8 + 1) 8 = 24 by rw [ends_ld s _ _ 8 rfl s1, if_neg (by omega)])
  have E4 := Lib.hid (show stE (eD s) (s - 8 + 1) 8 = 24 by rw [ends_st s _ _ 8 rfl s1, if_neg (by omega)])
  have E5 := Lib.hid (show stE (eD s) 4294967295 8 = 24 by rw [ends_st s _ _ 8 rfl s1, if_neg (by omega)])
  have E6 := Lib.hid (ends_v (fun _ => 0) s (s - 8) 8 v 8 rfl s1 v0 (by omega))
  have F1 := Lib.hid (show ftN (eC s) (s - 3) 15 = 3 by rw [ends_ft s _ s1 (by omega) (by omega)]; omega)
  have F2 := Lib.hid (show ftN (eC s) s 15 = 0 by rw [ends_ft s _ s1 (by omega) (by omega)]; omega)
  have hM : bits .and .u64 v 18446744073709551615 = v % 256 ^ 8 := and_low64 v 64 v0 v1 (by decide)
  have hc : (eC s).ok := ⟨by show (0 : Int) ≤ 5 ∧ (5 : Int) < 4294967296; omega, by show 0 ≤ s ∧ s < 4294967296; omega⟩
  have hd : (eD s).ok := ⟨by show (0 : Int) ≤ 131072 ∧ (131072 : Int) < 4294967296; omega, by show 0 ≤ s ∧ s < 4294967296; omega⟩
  obtain ⟨V, hV⟩ : ∃ V, v % 256 ^ 8 = V := ⟨_, rfl⟩
  rw [hV] at hM
  have HV := Lib.hid hV
  clear hV
  go_enter Try.func4, Try.ntmps4
  go_wp2_with fail
  refine (known8_any _).mono ?_
  rintro e w1 ⟨rfl, B1⟩
  go_wp2_with fail
  refine (min_new (w0 := w) _ (below_last B1 _)).mono ?_
  rintro e w2 ⟨p, F, rfl, M2, _, _⟩
  go_wp2_with fail
  refine (bin_new M2 (eC s) (eD s) hc hd).mono ?_
  rintro e w3 ⟨b, F3, rfl, X3⟩
  go_wp2_with fail
  refine (bin_store X3 (s - 8) 8 v (by omega) (by omega) v0 v1).mono ?_
  rintro e w4 ⟨F4, rfl, X4⟩
  rw [E1.out]
  clear B1 M2 X3
  go_wp2_with fail
  refine (bin_load X4 (s - 8) 8 (by omega) (by omega)).mono ?_
  rintro e w5 ⟨rfl, X5⟩
  rw [E2.out, E6.out, HV.out]
  clear X4
  go_wp2_with fail
  refine (bin_load X5 (s - 8 + 1) 8 (by omega) (by omega)).mono ?_
  rintro e w6 ⟨rfl, X6⟩
  rw [E3.out]
  clear X5
  go_wp2_with fail
  refine (bin_store X6 (s - 8 + 1) 8 v (by omega) (by omega) v0 v1).mono ?_
  rintro e w7 ⟨F7, rfl, X7⟩
  rw [E4.out]
  clear X6
  go_wp2_with fail
  refine (bin_store X7 4294967295 8 v (by decide) (by decide) v0 v1).mono ?_
  rintro e w8 ⟨F8, rfl, X8⟩
  rw [E5.out]
  clear X7
  go_wp2_with fail
  refine (bin_fetch X8 (s - 3) 15 (by omega) (by omega)).mono ?_
  rintro e w9 ⟨y, cap, rfl, _, X9⟩
  rw [F1.out]
  clear X8
  go_wp2_with fail
  refine (bin_fetch X9 s 15 (by omega) (by omega)).mono ?_
  rintro e w10 ⟨y, cap, rfl, _, X10⟩
  rw [F2.out]
  have B10 := X10.low
  clear X9 X10
  go_wp2_with fail
  go_ret
  exact ⟨rfl, B10⟩

theorem busends_walk (z n v : Int) (w : World) (z0 : 0 ≤ z) (z1 : z < 65536) (n0 : 0 ≤ n) (n1 : n < 256) (v0 : 0 ≤ v) (v1 : v < 18446744073709551616) :
    Calls Try.prog 4 #[.int .u16 z, .int .u8 n, .int .u64 v] w fun e w' => e = .returned (.bool true) ∧ Below w.heap.size w w' := by
  have hn : n % 4 = 0 ∨ n % 4 = 1 ∨ n % 4 = 2 ∨ n % 4 = 3 := by omega
  rcases hn with h | h | h | h
  · exact busends_0 z n v w z0 z1 n0 n1 v0 v1 h
  · exact busends_1 z n v w z0 z1 n0 n1 v0 v1 h
  · exact busends_2 z n v w z0 z1 n0 n1 v0 v1 h
  · exact busends_3 z n v w z0 z1 n0 n1 v0 v1 h

theorem busEnds_own : ownKnob Try.prog.godebug = none := by kernel_rfl
set_option maxRecDepth 100000 in
theorem busEnds_lifted (os : Os) (started : os.Started) (H : Type) (enc : TypeId × Value → H) :
    ReturnsInHanded {} Try.checked os 4 .any (Rows.busEndsSpec.pre6 enc Try.prog Try.f4 Rows.busEndsRow.domain false) (Rows.busEndsSpec.post enc Try.prog Try.f4 false true false false) := by
  refine returnsInHanded_of_change (C := Try.checked) busEnds_own started (by kernel_rfl) Try.func4
    (ChangeSpec.witness6 (enc := enc) (C := Try.checked) false ⟨#[], #[.int .u16 0, .int .u8 0, .int .u64 0], []⟩ 8 (by kernel_rfl) (by kernel_rfl) (by kernel_rfl) (by kernel_rfl)) ?_
  intro W base args ds gs before hval0 hW hcnd _
  have hval : ∀ (j : Nat) t v, Try.f4.params[j]? = some t → args[j]? = some v → Value.okWide Try.prog W .any base t v := hval0
  have hW' := hW
  obtain ⟨p, q, hA0, hV, rfl, hfz, hnd⟩ := hW
  have hA : DataW.TrodAll enc Try.prog W 0 (fun _ => true) true Try.f4.params.toList args.toList ds p := hA0
  rw [Try.params4] at hA hval
  obtain ⟨v0, vs0, d0, ds0, p0, q0, hargs, rfl, rfl, h0, r0⟩ := trodAll_cons hA
  obtain ⟨v1, vs1, d1, ds1, p1, q1, rfl, rfl, rfl, h1, r1⟩ := trodAll_cons r0
  obtain ⟨v2, vs2, d2, ds2, p2, q2, rfl, rfl, rfl, h2, r2⟩ := trodAll_cons r1
  obtain ⟨rfl, rfl, rfl⟩ := trodAll_nil r2
  obtain rfl : args = #[v0, v1, v2] := by cases args; simp_all
  obtain ⟨rfl, rfl⟩ := trodVars_none hV
  obtain ⟨a0, rfl, rfl, rfl, w0⟩ := open_int Try.underlying38 (hval 0 38 v0 rfl rfl) h0
  obtain ⟨a1, rfl, rfl, rfl, w1⟩ := open_int Try.underlying5 (hval 1 5 v1 rfl rfl) h1
  obtain ⟨a2, rfl, rfl, rfl, w2⟩ := open_int Try.underlying25 (hval 2 25 v2 rfl rfl) h2
  clear hA0 hval0
  simp only [List.append_nil] at hW'
  have b0 : 0 ≤ a0 ∧ a0 < 65536 := by
    have h := w0
    simp only [Lit.wf, Bool.and_eq_true, decide_eq_true_eq] at h
    have e1 : IntKind.u16.min = 0 := by decide
    have e2 : IntKind.u16.max = 65535 := by decide
    omega
  have b1 : 0 ≤ a1 ∧ a1 < 256 := by
    have h := w1
    simp only [Lit.wf, Bool.and_eq_true, decide_eq_true_eq] at h
    have e1 : IntKind.u8.min = 0 := by decide
    have e2 : IntKind.u8.max = 255 := by decide
    omega
  have b2 : 0 ≤ a2 ∧ a2 < 18446744073709551616 := by
    have h := w2
    simp only [Lit.wf, Bool.and_eq_true, decide_eq_true_eq] at h
    have e1 : IntKind.u64.min = 0 := by decide
    have e2 : IntKind.u64.max = 18446744073709551615 := by decide
    omega
  refine (busends_walk a0 a1 a2 W b0.1 b0.2 b1.1 b1.2 b2.1 b2.2).mono fun e W' ⟨he, hg⟩ => ?_
  subst he
  exact ⟨_, rfl, post_plain hW' hg (fun sp => (trodAll_cons_mk (shut_int Try.underlying38 w0) (trodAll_cons_mk (shut_int Try.underlying5 w1) (trodAll_cons_mk (shut_int Try.underlying25 w2) trodAll_mk0)))) (fun _ => rfl)
    (fun _ _ _ => (trodAll_cons_mk (shut_bool Try.underlying4 _) trodAll_mk0)) (ok_one (by kernel_rfl) rfl (okWide_bool_mk Try.underlying4 _))⟩

theorem busEnds_holds : Rows.BusEndsSaid :=
  OpenClaim.holds_of_wide 4 Try.f4 rfl rfl rfl rfl rfl rfl rfl ⟨rfl, rfl, rfl, rfl, rfl⟩ rfl rfl rfl rfl rfl (by kernel_rfl) Try.func4 (by kernel_rfl)
    (of_decide_eq_true (by kernel_rfl)) (by unfold Func.isWrapper; first | (rw [if_pos (by decide +kernel)]; kernel_rfl) | (rw [if_neg (by decide +kernel)]; exact ⟨rfl, rfl⟩))
    (fun os started H enc _ => busEnds_lifted os started H enc)
#print axioms busEnds_holds
end Go.Proofs.Ytkmoefgoolhegaa
